"""The examples that the document gives in all parts, as they stand there."""

import unittest

from causeloops import errors

PART_1 = r"""
>>> from causeloops.placements import edges, has_step, is_placement, keeps, places, shared
>>> LINE = ((("a",), ("a", "b"), ("b",)), ((0, 2),))
>>> [is_placement(LINE), places(LINE), keeps(LINE, 1), keeps(LINE, 3), shared(LINE, 0, 1), has_step(LINE, 0, 2), has_step(LINE, 3, 2), edges(LINE)]
[True, 4, ('a', 'b'), (), ('a',), False, True, ((0, 1), (1, 0), (1, 2), (2, 1))]
"""

PART_2 = r"""
>>> from causeloops.loops import has_loop, judge_loop, left_ways, loop_holds
>>> LINE, JOINED = ((("a",), ("a", "b"), ("b",)), ()), ((("a",), ("a", "b"), ("b",)), ((0, 2),))
>>> [has_loop(LINE, 0, (1, 2)), judge_loop(LINE, 0, (1, 2)), judge_loop(JOINED, 0, (1, 2)), judge_loop(JOINED, 0, (2, 1)), left_ways(JOINED, 3, (0, 1))]
[False, ('none', ()), ('loop', (3, 2), (1,)), ('loop', (1,), (2, 3)), ((2, 1),)]
>>> HEARD = ((("p", "r"), ("c", "r"), ("c", "q"), ("c", "p", "q")), ())
>>> [left_ways(HEARD, 0, (1, 2)), loop_holds(HEARD, 0, (1, 2), ("none", (((3,), ()),))), loop_holds(HEARD, 0, (1, 2), ("loop", (3, 2), (1,))), has_loop(HEARD, 0, (1, 3))]
[((3, 2),), True, False, True]
>>> has_loop(LINE, 0, (1, 0))
raises OwnEdge(edge=(1, 0))
"""

PART_3 = r"""
>>> from causeloops.needs import counters, full_plan, is_enough, is_plan, lacking, least_plan, needed
>>> LINE, JOINED = ((("a",), ("a", "b"), ("b",)), ()), ((("a",), ("a", "b"), ("b",)), ((0, 2),))
>>> [needed(LINE, 0), needed(LINE, 1), needed(JOINED, 0), needed(JOINED, 3)]
[((0, 1), (1, 0)), ((0, 1), (1, 0), (1, 2), (2, 1)), ((0, 1), (1, 0), (1, 2), (2, 1)), ((0, 1), (1, 0), (1, 2), (2, 1))]
>>> [counters(LINE, least_plan(LINE)), counters(LINE, full_plan(LINE)), is_plan(JOINED, least_plan(LINE)), lacking(JOINED, least_plan(LINE) + ((),))]
[8, 12, False, ((0, (1, 2)), (0, (2, 1)), (2, (0, 1)), (2, (1, 0)), (3, (0, 1)), (3, (1, 0)), (3, (1, 2)), (3, (2, 1)))]
"""

PART_4 = r"""
>>> from causeloops.counts import applied, may_apply, may_visit, new_counts, visited, written
>>> from causeloops.needs import least_plan
>>> THREE = ((("a", "b"), ("b", "c"), ("a", "c")), ())
>>> PLAN = least_plan(THREE)
>>> [PLAN[0], new_counts(THREE, PLAN, 1), written(THREE, PLAN, 1, (0, 0, 0, 0, 0, 0), "c")]
[((0, 1), (0, 2), (1, 0), (1, 2), (2, 0), (2, 1)), (0, 0, 0, 0, 0, 0), (0, 0, 0, 1, 0, 0)]
>>> LATER = (1, "b", written(THREE, PLAN, 1, (0, 0, 0, 1, 0, 0), "b"))
>>> [LATER, may_apply(THREE, PLAN, 0, (0, 0, 0, 0, 0, 0), LATER), applied(THREE, PLAN, 0, (0, 0, 0, 0, 0, 0), LATER)]
[(1, 'b', (0, 0, 1, 1, 0, 0)), True, (0, 0, 1, 1, 0, 0)]
>>> may_apply(THREE, PLAN, 2, (0, 0, 0, 0, 0, 0), (0, "a", (0, 1, 1, 1, 0, 0)))
False
"""

PART_5 = r"""
>>> from causeloops.needs import least_plan
>>> from causeloops.runs import causes, is_event, is_run, judge_run, missing, possible
>>> THREE = ((("a", "b"), ("b", "c"), ("a", "c")), ())
>>> PLAN = least_plan(THREE)
>>> POOR = (((0, 1), (0, 2), (1, 0), (2, 0), (2, 1)),) + PLAN[1:]
>>> TOLD = (("write", 1, "c"), ("write", 1, "b"), ("apply", 0, 1), ("write", 0, "a"))
>>> [possible(THREE, PLAN, TOLD), possible(THREE, POOR, TOLD), causes(THREE, PLAN, TOLD, 2), missing(THREE, PLAN, TOLD)]
[(('apply', 2, 0),), (('apply', 2, 0), ('apply', 2, 2)), (0, 1), ((2, 0), (2, 2))]
>>> [judge_run(THREE, POOR, TOLD + (("apply", 2, 2),)), is_run(THREE, PLAN, TOLD + (("apply", 2, 2),)), judge_run(THREE, PLAN, TOLD + (("apply", 2, 0), ("apply", 2, 2)))]
[('early', 4, 0), False, ('right',)]
"""

PART_6 = r"""
>>> from causeloops.needs import least_plan
>>> from causeloops.plans import is_right, judge_plan, plan_holds, run_from_loop
>>> from causeloops.runs import judge_run
>>> THREE = ((("a", "b"), ("b", "c"), ("a", "c")), ())
>>> POOR = (((0, 1), (0, 2), (1, 0), (2, 0), (2, 1)),) + least_plan(THREE)[1:]
>>> [is_right(THREE, least_plan(THREE)), judge_plan(THREE, POOR)[0], judge_run(THREE, POOR, run_from_loop(THREE, POOR, 0, (1, 2), ((2,), (1,))))[0]]
[True, 'wrong', 'early']
>>> plan_holds(THREE, POOR, ("wrong", (("write", 1, "c"), ("write", 1, "b"), ("apply", 0, 1), ("write", 0, "a"), ("apply", 2, 2))))
True
"""

PART_7 = r"""
>>> from causeloops.ranks import basis, edge_holds, groups, is_whole, judge_counts, numbers, packed, rank, row_of, unpacked, weights
>>> FOUR = ((("a", "b", "c"), ("a",), ("b",), ("a", "b")), ())
>>> EDGES = ((0, 1), (0, 2), (0, 3))
>>> [row_of(FOUR, (0, 3)), basis(FOUR, 0, EDGES), rank(FOUR, 0, EDGES), weights(FOUR, 0, EDGES)]
[(1, 1, 0), ((0, 1), (0, 2)), 2, (((1, 1), (0, 1)), ((0, 1), (1, 1)), ((1, 1), (1, 1)))]
>>> [packed(FOUR, 0, EDGES, (2, 3, 5)), unpacked(FOUR, 0, EDGES, (2, 3)), judge_counts(FOUR, 0, ((0, 1), (0, 3)), (2, 1))]
[(2, 3), ((2, 1), (3, 1), (5, 1)), ('none',)]
>>> [edge_holds(FOUR, 0, ((0, 1),), (0, 3), ("open", (0, 0, 0), (0, 1, 0))), edge_holds(FOUR, 0, ((0, 1), (0, 2)), (0, 3), ("told", ((1, 1), (1, 1)))), groups(FOUR, ((1, 0), (1, 3), (3, 0)))]
[True, True, (((1, 0), (1, 3)), ((3, 0),))]
>>> FULL = (("a",), ("a",), ("a",)), ()
>>> ALL = ((0, 1), (0, 2), (1, 0), (1, 2), (2, 0), (2, 1))
>>> [numbers(FULL, (ALL, ALL, ALL)), is_whole(FULL, (ALL, ALL, ALL)), is_whole(FULL, (((0, 1), (0, 2), (1, 0), (2, 0)), ALL, ALL))]
[(3, 3, 3), True, False]
"""

PART_8 = r"""
>>> from causeloops.standins import all_standins, best_price, judge_standins, price, widened
>>> SMALL = ((("b",), ("b", "d", "e"), ("b", "c", "e")), ())
>>> [all_standins(SMALL), widened(SMALL, ((0, "e"),))[0][0], price(SMALL, ()), price(SMALL, ((0, "e"),)), best_price(SMALL, 1), judge_standins(SMALL, ((0, "e"),), 1)]
[((0, 'c'), (0, 'd'), (0, 'e'), (1, 'c'), (2, 'd')), ('b', 'e'), (15, 3), (9, 4), (9, 4), ('best',)]
"""

PART_9 = r"""
>>> from causeloops.growth import changed, counts_anew, is_change, news
>>> ROW = ((("a",), ("a", "b"), ("b",)), ())
>>> [changed(ROW, ("keep", 2, "a"))[0][2], news(ROW, ("keep", 0, "b"))[0], news(ROW, ("join", (0, 2)))[0], is_change(ROW, ("drop", 0, "b"))]
[('a', 'b'), (((0, 2), (1, 2), (2, 0), (2, 1)), ()), (((1, 2), (2, 1)), ()), False]
>>> counts_anew(ROW, ("join", (0, 2)), ((("a", 4),), (("a", 1), ("b", 2)), ()))[3]
(4, 1, 2, 0)
"""

PART_10 = r"""
>>> from causeloops.shapes import blocks, cuts, needs_by_blocks, parts, ring_holds, shape
>>> KITE = ((("a", "c"), ("a", "b"), ("b", "c", "d"), ("d",), ("e",)), ())
>>> [parts(KITE), blocks(KITE), cuts(KITE), shape(KITE), needs_by_blocks(KITE)[0], needs_by_blocks(KITE)[3], ring_holds(KITE, 0, 2, (0, 1, 2))]
[((0, 1, 2, 3), (4,)), ((0, 1, 2), (2, 3)), (2,), 'other', (((0, 1, 2), ((1, 2), (2, 1))),), (((2, 3), ()),), True]
>>> [shape(((("a",), ("a", "b"), ("b",)), ())), shape(((("a",), ("a",)), ())), shape(((("a", "c"), ("a", "b"), ("b", "c")), ())), shape(((("a",), ("a",), ("a",)), ()))]
['forest', 'forest', 'ring', 'full']
"""

PART_11 = r"""
>>> from causeloops.needs import least_plan
>>> from causeloops.stores import Store
>>> JOINED = ((("a",), ("a", "b"), ("b",)), ((0, 2),))
>>> shop = Store(JOINED, least_plan(JOINED))
>>> [shop.write(1, "b", 5), shop.write(1, "a", 6), shop.waiting(), shop.apply(0, 1), shop.read(3, 0, "a"), shop.can_visit(3, 2)]
[0, 1, ((0, 1), (2, 0)), None, 6, False]
>>> [shop.settle(), shop.read(3, 2, "b"), shop.counts(3), shop.value(0, "a")]
[1, 5, (0, 1, 1, 0), 6]
"""

PART_12 = r"""
>>> from causeloops.needs import least_plan
>>> from causeloops.stores import Store
>>> from causeloops.views import history, is_history, judge_history, known_after, run_of
>>> JOINED = ((("a",), ("a", "b"), ("b",)), ((0, 2),))
>>> shop = Store(JOINED, least_plan(JOINED))
>>> [shop.write(1, "b", 5), shop.write(1, "a", 6), shop.apply(0, 1), shop.read(3, 0, "a")]
[0, 1, None, 6]
>>> [history(shop), run_of(shop), known_after(JOINED, history(shop), 3)]
[(('write', 1, 'b', 5), ('write', 1, 'a', 6), ('apply', 0, 1), ('visit', 3, 0), ('read', 3, 0, 'a', 6)), (('write', 1, 'b'), ('write', 1, 'a'), ('apply', 0, 1), ('visit', 3, 0)), (0, 1)]
>>> BAD = history(shop) + (("visit", 3, 2), ("read", 3, 2, "b", None))
>>> [judge_history(JOINED, BAD), is_history(JOINED, least_plan(JOINED), BAD)]
[('old', 6), False]
"""

PART_13 = r"""
>>> from causeloops.benches import Bench, is_short, placement_text, read_placement, run_text, shortened, without
>>> from causeloops.needs import least_plan
>>> THREE = ((("a", "b"), ("b", "c"), ("a", "c")), ())
>>> POOR = (((0, 1), (0, 2), (1, 0), (2, 0), (2, 1)),) + least_plan(THREE)[1:]
>>> LONG = (("write", 0, "b"), ("write", 1, "c"), ("write", 1, "b"), ("apply", 0, 2), ("write", 0, "a"), ("apply", 2, 3))
>>> [placement_text(THREE), read_placement(placement_text(THREE)) == THREE, run_text(THREE, POOR, LONG[:2])]
['site a b\nsite b c\nsite a c', True, 'write 0 b\nwrite 1 c']
>>> [is_short(THREE, POOR, LONG), shortened(THREE, POOR, LONG), without(THREE, POOR, LONG, 2)]
[False, (('write', 1, 'c'), ('write', 1, 'b'), ('apply', 0, 1), ('write', 0, 'a'), ('apply', 2, 2)), (('write', 0, 'b'), ('write', 1, 'c'), ('write', 0, 'a'), ('apply', 2, 2))]
>>> desk = Bench(THREE, least_plan(THREE))
>>> [desk.do(("write", 1, "c")), desk.undo(), desk.redo(), desk.redo(), desk.run(), desk.verdict()]
[None, True, True, False, (('write', 1, 'c'),), ('right',)]
"""


def answer_of(code, names):
    """What an example shows: a value as Python shows it, or its error."""
    try:
        return repr(eval(code, names))
    except errors.LoopError as error:
        shown = ", ".join(f"{name}={value!r}" for name, value in vars(error).items())
        return f"raises {type(error).__name__}({shown})"


class ExampleTests(unittest.TestCase):
    def run_examples(self, text):
        lines = text.strip().split("\n")
        names, checked = {}, 0
        for at, line in enumerate(lines):
            if not line.startswith(">>> "):
                continue
            code, after = line[4:], lines[at + 1:at + 2]
            if after and not after[0].startswith(">>> "):
                self.assertEqual(answer_of(code, names), after[0])
                checked += 1
            else:
                exec(code, names)
        return checked

    def test_part_1(self):
        self.assertEqual(self.run_examples(PART_1), 1)

    def test_part_2(self):
        self.assertEqual(self.run_examples(PART_2), 3)

    def test_part_3(self):
        self.assertEqual(self.run_examples(PART_3), 2)

    def test_part_4(self):
        self.assertEqual(self.run_examples(PART_4), 3)

    def test_part_5(self):
        self.assertEqual(self.run_examples(PART_5), 2)

    def test_part_6(self):
        self.assertEqual(self.run_examples(PART_6), 2)

    def test_part_7(self):
        self.assertEqual(self.run_examples(PART_7), 4)

    def test_part_8(self):
        self.assertEqual(self.run_examples(PART_8), 1)

    def test_part_9(self):
        self.assertEqual(self.run_examples(PART_9), 2)

    def test_part_10(self):
        self.assertEqual(self.run_examples(PART_10), 2)

    def test_part_11(self):
        self.assertEqual(self.run_examples(PART_11), 2)

    def test_part_12(self):
        self.assertEqual(self.run_examples(PART_12), 3)

    def test_part_13(self):
        self.assertEqual(self.run_examples(PART_13), 3)


if __name__ == "__main__":
    unittest.main()
