"""The examples that the document gives in Parts 1 and 2, as they stand there."""

import unittest

from causeloops import errors

PART_1 = r"""
>>> from causeloops.placements import edges, has_step, is_placement, keeps, places, shared
>>> LINE = ((("a",), ("a", "b"), ("b",)), ((0, 2),))
>>> [is_placement(LINE), places(LINE), keeps(LINE, 1), keeps(LINE, 3), shared(LINE, 0, 1), has_step(LINE, 0, 2), has_step(LINE, 3, 2), edges(LINE)]
[True, 4, ('a', 'b'), (), ('a',), False, True, ((0, 1), (1, 0), (1, 2), (2, 1))]
"""

PART_2 = r"""
>>> from causeloops.loops import has_loop, judge_loop, left_ways, loop_holds
>>> LINE, JOINED = ((("a",), ("a", "b"), ("b",)), ()), ((("a",), ("a", "b"), ("b",)), ((0, 2),))
>>> [has_loop(LINE, 0, (1, 2)), judge_loop(LINE, 0, (1, 2)), judge_loop(JOINED, 0, (1, 2)), judge_loop(JOINED, 0, (2, 1)), left_ways(JOINED, 3, (0, 1))]
[False, ('none', ()), ('loop', (3, 2), (1,)), ('loop', (1,), (2, 3)), ((2, 1),)]
>>> HEARD = ((("p", "r"), ("c", "r"), ("c", "q"), ("c", "p", "q")), ())
>>> [left_ways(HEARD, 0, (1, 2)), loop_holds(HEARD, 0, (1, 2), ("none", (((3,), ()),))), loop_holds(HEARD, 0, (1, 2), ("loop", (3, 2), (1,))), has_loop(HEARD, 0, (1, 3))]
[((3, 2),), True, False, True]
>>> has_loop(LINE, 0, (1, 0))
raises OwnEdge(edge=(1, 0))
"""


def answer_of(code, names):
    """What an example shows: a value as Python shows it, or its error."""
    try:
        return repr(eval(code, names))
    except errors.LoopError as error:
        shown = ", ".join(f"{name}={value!r}" for name, value in vars(error).items())
        return f"raises {type(error).__name__}({shown})"


class ExampleTests(unittest.TestCase):
    def run_examples(self, text):
        lines = text.strip().split("\n")
        names, checked = {}, 0
        for at, line in enumerate(lines):
            if not line.startswith(">>> "):
                continue
            code, after = line[4:], lines[at + 1:at + 2]
            if after and not after[0].startswith(">>> "):
                self.assertEqual(answer_of(code, names), after[0])
                checked += 1
            else:
                exec(code, names)
        return checked

    def test_part_1(self):
        self.assertEqual(self.run_examples(PART_1), 1)

    def test_part_2(self):
        self.assertEqual(self.run_examples(PART_2), 3)


if __name__ == "__main__":
    unittest.main()
