"""L23 ("Iterated at once"): no file of the package passes a range, or the like, to a function of the package."""

import ast
import pathlib
import unittest

from tests.passed import passed_rows

PACKAGE = pathlib.Path(__file__).resolve().parent.parent / "causeloops"

BROKEN = """own(range(3))
own(1, range(len(rows)))
own(group=range(3))
box.fill(range(3))
self.fill(1, range(3))
Box(range(3))
rows.extend(range(3))
tuple([tuple(row) for row in own(net, range(3))])
own(own(range(3)))
own(range(3)[1:])
own(range(3) if rows else [])
own(rows or range(3))
own((1, range(3)))
own([range(3), 1])
own({1: range(3)})
own(*range(3))
own([range(one) for one in rows])
own(zip(rows, rows))
own(enumerate(rows))
own(reversed(rows))
own(table.items())
own(table.keys())
own(table.values())
(lambda group: list(group))(range(3))""".split("\n")

RIGHT = """own(list(range(3)))
own(1, tuple(range(len(rows))))
own([one for one in range(3)])
own(len(range(3)))
own(range(3)[1])
own(3 in range(3))
own(sum(range(3)))
own(rows, [row[at] for at in range(3)])
list(range(3))
list(enumerate(range(3)))
dict(zip(rows, range(3)))
min(range(3), default=0)
combinations(range(3), 2)
", ".join(table.keys())
own(list(table.items()))
[own(one) for one in range(3)]
rows.append(list(range(3)))""".split("\n")

KEPT = """
from itertools import combinations


def first(rows):
    numbers = range(len(rows))
    told = [own(one) for one in numbers]
    return own(rows, numbers)


def second(rows):
    numbers = list(range(len(rows)))
    return own(rows, numbers)


class Box:
    def third(self, rows):
        pairs: object = zip(rows, rows)
        return self.own(own=pairs)

    def fourth(self, rows):
        pairs = list(combinations(range(3), 2))
        numbers = range(3)
        return self.own(list(numbers), tuple(pairs), sorted(numbers), numbers[1])
"""


def rows_of(text):
    return passed_rows(ast.parse(text), "causeloops")


class PassedTests(unittest.TestCase):
    def test_no_range_is_passed_to_a_function_of_the_package(self):
        paths = sorted(PACKAGE.rglob("*.py"))
        self.assertGreater(len(paths), 20)
        for path in paths:
            self.assertEqual(rows_of(path.read_text()), [], path)

    def test_what_breaks_the_rule_is_found(self):
        for line in BROKEN:
            self.assertEqual(rows_of(line), [1], line)
            self.assertEqual(rows_of("def made(rows, table):\n    return " + line), [2], line)

    def test_what_keeps_the_rule_is_not_found(self):
        begin = "from itertools import combinations\n"
        for line in RIGHT:
            self.assertEqual(rows_of(begin + line), [], line)
            self.assertEqual(rows_of(begin + "def made(rows, table):\n    return " + line), [], line)

    def test_a_function_of_the_package_with_a_builtin_like_name(self):
        self.assertEqual(rows_of("from causeloops.blocks import combinations\ncombinations(range(3), 2)"), [2])

    def test_kept_ranges(self):
        self.assertEqual(rows_of(KEPT), [8, 19])

    def test_the_two_rows_that_were_out_of_the_rule(self):
        self.assertEqual(rows_of("pieces = find_pieces(net, range(len(net.near)))"), [1])
        self.assertEqual(rows_of("pieces = find_pieces(net, list(range(len(net.near))))"), [])
        row = "told = tuple([tuple(piece) for piece in find_pieces(Net(placement), {})])"
        self.assertEqual(rows_of(row.format("range(count_places(placement))")), [1])
        self.assertEqual(rows_of(row.format("list(range(count_places(placement)))")), [])


if __name__ == "__main__":
    unittest.main()
