"""[7.1] Rows, [7.2] Rank and basis, [7.3] What is least, [7.4] and [7.5] Certificates, [7.6] Groups."""

import unittest
from itertools import combinations, product

from causeloops.errors import BadCounts
from causeloops.needs import full_plan, is_enough, least_plan
from causeloops.ranks import (basis, counts_hold, edge_holds, groups, is_whole, judge_counts, judge_edge, numbers,
                              packed, rank, row_of, unpacked, weights, whole)
from causeloops.runs import counts_after
from tests import oracle, oracle_ranks, oracle_runs
from tests.draws import drawn_run, plans_of, small_placements
from tests.samples import (ALONE, EMPTY, FULL, JOINED, NAMED, RING, STAR, THREE, Numbers, drawn_placements,
                           many_placements, told)

FOUR = ((("a", "b", "c"), ("a",), ("b",), ("a", "b")), ())
HALVES = ((("a", "b", "c"), ("a", "b"), ("b", "c"), ("a", "c"), ("a", "b", "c")), ())
LESS = ((("a", "b", "c"), ("a", "b", "c"), ("a",), ("b", "c"), ("b", "c", "d")), ((0, 4),))
EQUAL = ((("a", "b", "z"), ("a", "b"), ("a", "b", "c"), ("a", "c")), ())


def some_of(edges):
    """All ascending tuples of some of the edges."""
    return [some for length in range(len(edges) + 1) for some in combinations(edges, length)]


def questions(placement):
    """Each site with each ascending tuple of edges from it."""
    return [(site, some) for site in range(oracle.sites_of(placement))
            for some in some_of([edge for edge in oracle.edges_of(placement) if edge[0] == site])]


def rank_placements():
    found = list(NAMED) + [FOUR, HALVES, LESS, EQUAL]
    found += drawn_placements(25, 41, 4, 4, 0) + drawn_placements(15, 42, 5, 5, 1) + drawn_placements(10, 43, 3, 6, 0)
    found += drawn_placements(3, 44, 6, 8, 0)
    return found


def drawn_writes(placement, site, numbers, limit):
    return tuple(numbers.below(limit) for _ in placement[0][site])


class RowTests(unittest.TestCase):
    def test_one_for_each_register_that_the_other_keeps(self):
        self.assertEqual([row_of(FOUR, (0, k)) for k in (1, 2, 3)], [(1, 0, 0), (0, 1, 0), (1, 1, 0)])
        self.assertEqual([row_of(FOUR, (k, 0)) for k in (1, 2, 3)], [(1,), (1,), (1, 1)])
        self.assertEqual(row_of(placement=STAR, edge=(0, 2)), (0, 1, 0))
        self.assertEqual(row_of(FULL, (2, 0)), (1, 1))
        self.assertEqual(row_of(LESS, (4, 3)), (1, 1, 0))

    def test_all_edges(self):
        for placement in many_placements():
            for edge in oracle.edges_of(placement):
                self.assertEqual(row_of(placement, edge), oracle_ranks.row(placement, edge))

    def test_the_count_is_what_the_site_itself_counts(self):
        draw = Numbers(45)
        for placement in small_placements():
            plan = least_plan(placement)
            run = drawn_run(placement, plan, draw, 14)
            for site, kept in enumerate(placement[0]):
                writes = [sum(event == ("write", site, x) for event in run) for x in kept]
                counted = dict(zip(plan[site], counts_after(placement, plan, run, site)))
                for edge in plan[site]:
                    if edge[0] == site:
                        self.assertEqual(counted[edge], sum(a * b for a, b in zip(row_of(placement, edge), writes)))


class BasisTests(unittest.TestCase):
    def test_rows_that_are_sums_of_others(self):
        edges = ((0, 1), (0, 2), (0, 3))
        self.assertEqual(basis(FOUR, 0, edges), ((0, 1), (0, 2)))
        self.assertEqual(basis(placement=FOUR, site=0, edges=edges[1:]), ((0, 2), (0, 3)))
        self.assertEqual(rank(placement=FOUR, site=0, edges=edges), 2)
        self.assertEqual(weights(placement=FOUR, site=0, edges=edges[1:]), (((1, 1), (0, 1)), ((0, 1), (1, 1))))

    def test_fractions(self):
        edges = ((0, 1), (0, 2), (0, 3), (0, 4))
        self.assertEqual(basis(HALVES, 0, edges), edges[:3])
        self.assertEqual(weights(HALVES, 0, edges)[3], ((1, 2), (1, 2), (1, 2)))
        self.assertEqual(unpacked(HALVES, 0, edges, (1, 1, 1)), ((1, 1), (1, 1), (1, 1), (3, 2)))

    def test_numbers_below_0(self):
        edges = ((0, 1), (0, 2), (0, 3), (0, 4))
        self.assertEqual(basis(LESS, 0, edges), ((0, 1), (0, 2)))
        self.assertEqual(weights(LESS, 0, edges)[2:], (((1, 1), (-1, 1)), ((1, 1), (-1, 1))))
        self.assertEqual(unpacked(LESS, 0, edges, (1, 3)), ((1, 1), (3, 1), (-2, 1), (-2, 1)))

    def test_equal_rows(self):
        edges = ((0, 1), (0, 2), (0, 3))
        self.assertEqual(basis(EQUAL, 0, edges), ((0, 1), (0, 3)))
        self.assertEqual(weights(EQUAL, 0, edges), (((1, 1), (0, 1)), ((1, 1), (0, 1)), ((0, 1), (1, 1))))

    def test_no_edges_at_all(self):
        for placement, site in ((FOUR, 0), (ALONE, 1), (ALONE, 0)):
            self.assertEqual(basis(placement, site, ()), ())
            self.assertEqual(rank(placement, site, ()), 0)
            self.assertEqual(weights(placement, site, ()), ())
            self.assertEqual(packed(placement, site, (), ()), ())
            self.assertEqual(unpacked(placement, site, (), ()), ())

    def test_as_in_another_elimination(self):
        seen = set()
        for placement in rank_placements():
            for site, edges in questions(placement):
                self.assertEqual(basis(placement, site, edges), oracle_ranks.basis(placement, edges))
                self.assertEqual(rank(placement, site, edges), len(oracle_ranks.basis(placement, edges)))
                found = weights(placement, site, edges)
                self.assertEqual(found, oracle_ranks.weights(placement, edges))
                seen.update(part for line in found for part in line)
        self.assertLess({(0, 1), (1, 1), (-1, 1), (1, 2)}, seen)

    def test_all_sites_with_all_registers_have_rank_1(self):
        for count in (2, 3, 4, 5, 6):
            for kept in (("a",), ("a", "b", "c")):
                placement = ((kept,) * count, ())
                for site in range(count):
                    edges = tuple((site, k) for k in range(count) if k != site)
                    self.assertEqual(rank(placement, site, edges), 1)
                    self.assertEqual(weights(placement, site, edges), (((1, 1),),) * (count - 1))

    def test_a_site_with_many_registers(self):
        rows = ("abcdefgh", "abcd", "cdef", "aceg", "bdfh", "abefgh")
        placement = (tuple(tuple(row) for row in rows), ())
        for site, edges in questions(placement):
            self.assertEqual(weights(placement, site, edges), oracle_ranks.weights(placement, edges))


class LeastTests(unittest.TestCase):
    def test_the_counts_of_the_basis_determine_all(self):
        draw = Numbers(46)
        for placement in rank_placements():
            for site, edges in questions(placement):
                for limit in (2, 5, 13):
                    writes = drawn_writes(placement, site, draw, limit)
                    counts = oracle_ranks.counts(placement, edges, writes)
                    chosen = packed(placement, site, edges, counts)
                    self.assertEqual(chosen, oracle_ranks.counts(placement, basis(placement, site, edges), writes))
                    self.assertEqual(unpacked(placement, site, edges, chosen), tuple((count, 1) for count in counts))

    def test_fewer_linear_counters_never_do(self):
        """Some writes that fewer counters cannot tell apart have other counts: so it is for any counters drawn."""
        draw = Numbers(47)
        for placement in (FOUR, HALVES, LESS, EQUAL, THREE):
            for site, edges in questions(placement):
                width, many = len(placement[0][site]), rank(placement, site, edges)
                for _ in range(6):
                    lines = [[draw.below(3) - 1 for _ in range(width)] for _ in range(max(many - 1, 0))]
                    told_all = all(oracle_ranks.solve(lines, row) is not None
                                   for row in oracle_ranks.rows(placement, edges))
                    self.assertEqual(told_all, many == 0)


class PackedTests(unittest.TestCase):
    EDGES = ((0, 1), (0, 2), (0, 3))

    def test_counts_that_follow(self):
        self.assertEqual(packed(FOUR, 0, self.EDGES, (2, 3, 5)), (2, 3))
        self.assertEqual(packed(placement=FOUR, site=0, edges=self.EDGES, counts=(0, 0, 0)), (0, 0))
        self.assertEqual(unpacked(placement=FOUR, site=0, edges=self.EDGES, counts=(2, 3)), ((2, 1), (3, 1), (5, 1)))
        self.assertEqual(packed(LESS, 0, ((0, 1), (0, 2), (0, 3)), (7, 2, 5)), (7, 2))
        self.assertEqual(packed(FOUR, 0, self.EDGES[:2], (9, 10 ** 6)), (9, 10 ** 6))

    def test_counts_of_no_writes_that_follow_all_the_same(self):
        self.assertEqual(packed(LESS, 0, ((0, 1), (0, 2)), (1, 3)), (1, 3))
        self.assertEqual(judge_counts(LESS, 0, ((0, 1), (0, 2)), (1, 3)), ("none",))
        self.assertEqual(packed(HALVES, 0, ((0, 1), (0, 2), (0, 3)), (1, 1, 1)), (1, 1, 1))

    def test_counts_that_do_not_follow(self):
        for counts in ((2, 3, 4), (2, 3, 6), (0, 0, 1), (1, 0, 0)):
            self.assertEqual(told(packed, FOUR, 0, self.EDGES, counts), (BadCounts, {"thing": counts}))
        self.assertEqual(told(packed, EQUAL, 0, ((0, 1), (0, 2)), (1, 2)), (BadCounts, {"thing": (1, 2)}))
        self.assertEqual(told(packed, LESS, 0, self.EDGES, (1, 3, 0)), (BadCounts, {"thing": (1, 3, 0)}))
        edges = self.EDGES + ((0, 4),)
        for last in (0, 1, 2):
            self.assertEqual(told(packed, HALVES, 0, edges, (1, 1, 1, last)), (BadCounts, {"thing": (1, 1, 1, last)}))
        self.assertEqual(packed(HALVES, 0, edges, (1, 1, 2, 2)), (1, 1, 2))

    def test_small_counts_of_all_kinds(self):
        found = {True: 0, False: 0}
        for placement in (FOUR, HALVES, LESS, EQUAL, THREE, STAR):
            for site, edges in questions(placement):
                for counts in product(range(3), repeat=len(edges)):
                    chosen = tuple(count for edge, count in zip(edges, counts)
                                   if edge in oracle_ranks.basis(placement, edges))
                    follows = oracle_ranks.follow(placement, edges, chosen) == tuple((x, 1) for x in counts)
                    expected = chosen if follows else (BadCounts, {"thing": counts})
                    self.assertEqual(told(packed, placement, site, edges, counts), expected)
                    self.assertEqual(unpacked(placement, site, edges, chosen),
                                     oracle_ranks.follow(placement, edges, chosen))
                    found[follows] += 1
        self.assertGreater(min(found.values()), 100)


class EdgeCertificateTests(unittest.TestCase):
    def check(self, placement, site, others, edge, thing, answer):
        self.assertIs(edge_holds(placement, site, others, edge, thing), answer, thing)
        self.assertIs(edge_holds(placement=placement, site=site, others=others, edge=edge, thing=thing), answer)
        self.assertIs(oracle_ranks.edge_holds(placement, site, others, edge, thing), answer, thing)

    def test_exactly_one_kind_holds(self):
        kinds = {"told": 0, "open": 0}
        for placement in rank_placements():
            for site, others in questions(placement):
                for edge in [edge for edge in oracle.edges_of(placement) if edge[0] == site]:
                    found = judge_edge(placement, site, others, edge)
                    self.check(placement, site, others, edge, found, True)
                    lines, goal = oracle_ranks.rows(placement, others), oracle_ranks.row(placement, edge)
                    self.assertEqual(found[0] == "told", oracle_ranks.solve(lines, goal) is not None)
                    kinds[found[0]] += 1
        self.assertGreater(min(kinds.values()), 500)

    def test_by_name(self):
        found = judge_edge(placement=FOUR, site=0, others=((0, 1), (0, 2)), edge=(0, 3))
        self.assertEqual(found, ("told", ((1, 1), (1, 1))))

    def test_one_of_the_others(self):
        for others in (((0, 3),), ((0, 1), (0, 3)), ((0, 1), (0, 2), (0, 3))):
            self.assertEqual(judge_edge(FOUR, 0, others, (0, 3))[0], "told")
        self.check(FOUR, 0, ((0, 1), (0, 3)), (0, 3), ("told", ((0, 1), (1, 1))), True)

    def test_more_than_one_tuple_of_weights(self):
        others = ((0, 1), (0, 2), (0, 3))
        for told_all in (((1, 1), (1, 1), (0, 1)), ((0, 1), (0, 1), (1, 1)), ((1, 2), (1, 2), (1, 2)),
                         ((-1, 1), (-1, 1), (2, 1)), ((-5, 3), (-5, 3), (8, 3))):
            self.check(FOUR, 0, others, (0, 3), ("told", told_all), True)
        self.check(FOUR, 0, others, (0, 3), ("told", ((1, 1), (1, 1), (1, 1))), False)

    def test_no_others(self):
        self.assertEqual(judge_edge(FOUR, 0, (), (0, 3))[0], "open")
        self.check(FOUR, 0, (), (0, 3), ("told", ()), False)
        self.check(FOUR, 0, (), (0, 3), ("open", (0, 0, 0), (0, 10 ** 6, 0)), True)
        self.check(FOUR, 0, (), (0, 3), ("open", (0, 0, 0), (0, 0, 9)), False)

    def test_weights_that_are_no_fractions(self):
        others = ((0, 1), (0, 2))
        self.check(FOUR, 0, others, (0, 3), ("told", ((1, 1), (1, 1))), True)
        for part in ((2, 2), (-1, -1), (1,), (1, 1, 1), 1, (1, True), (True, 1), [1, 1], ("1", 1), None, (1, 0),
                     (0, 0), (1, -1), (10 ** 39, 10 ** 39)):
            self.check(FOUR, 0, others, (0, 3), ("told", (part, (1, 1))), False)
            self.check(FOUR, 0, others, (0, 3), ("told", ((1, 1), part)), False)
        full = ((0, 1), (0, 2), (0, 3))
        self.check(FOUR, 0, full, (0, 3), ("told", ((0, 1), (0, 1), (1, 1))), True)
        for zero in ((0, 2), (0, -1), (0, 0), 0, False):
            self.check(FOUR, 0, full, (0, 3), ("told", (zero, (0, 1), (1, 1))), False)

    def test_another_number_of_weights(self):
        others = ((0, 1), (0, 2))
        for row in (((1, 1),), (), ((1, 1), (1, 1), (0, 1)), [(1, 1), (1, 1)], None):
            self.check(FOUR, 0, others, (0, 3), ("told", row), False)

    def test_writes_that_are_none(self):
        others = ((0, 1),)
        self.check(FOUR, 0, others, (0, 3), ("open", (0, 0, 0), (0, 1, 0)), True)
        self.check(FOUR, 0, others, (0, 3), ("open", (4, 0, 2), (4, 1, 5)), True)
        for writes in ((0, 1), (0, 1, 0, 0), (0, -1, 0), (0, True, 0), [0, 1, 0], (0, "1", 0), None, (1, 1, 0), (0, 0, 1)):
            self.check(FOUR, 0, others, (0, 3), ("open", (0, 0, 0), writes), False)
            self.check(FOUR, 0, others, (0, 3), ("open", writes, (0, 0, 0)), False)

    def test_other_lengths_and_words(self):
        good = ("told", ((1, 1), (1, 1)))
        others = ((0, 1), (0, 2))
        for thing in (good + (1,), good[:1], list(good), ("open",) + good[1:], ("Told",) + good[1:], good[1], (),
                      ("told", (0, 0, 0), (0, 1, 0)), ("open", (0, 0, 0), (0, 1, 0)), (("told",), good[1])):
            self.check(FOUR, 0, others, (0, 3), thing, False)
        for thing in (("open", (0, 0, 0), (0, 1, 0), ()), ("told", (0, 0, 0), (0, 1, 0)), ("", (0, 0, 0), (0, 1, 0))):
            self.check(FOUR, 0, ((0, 1),), (0, 3), thing, False)

    def test_writes_that_differ_by_more_than_one(self):
        placement = ((("a", "b", "c", "d"), ("a", "b", "d"), ("b", "c", "d"), ("a", "c", "d"), ("d",)), ())
        others = ((0, 1), (0, 2), (0, 3))
        found = judge_edge(placement, 0, others, (0, 4))
        self.check(placement, 0, others, (0, 4), found, True)
        self.check(placement, 0, others, (0, 4), ("open", (0, 0, 0, 2), (1, 1, 1, 0)), True)
        self.check(placement, 0, others, (0, 4), ("open", (0, 0, 0, 1), (1, 1, 1, 0)), False)


class CountsCertificateTests(unittest.TestCase):
    def check(self, placement, site, edges, counts, thing, answer):
        self.assertIs(counts_hold(placement, site, edges, counts, thing), answer, thing)
        self.assertIs(counts_hold(placement=placement, site=site, edges=edges, counts=counts, thing=thing), answer)
        self.assertIs(oracle_ranks.counts_hold(placement, site, edges, counts, thing), answer, thing)

    def test_small_counts_of_all_kinds(self):
        kinds = {"writes": 0, "none": 0}
        for placement in (FOUR, HALVES, LESS, EQUAL, THREE, STAR, RING, JOINED, ALONE):
            for site, edges in questions(placement):
                for counts in product(range(3), repeat=len(edges)):
                    found = judge_counts(placement, site, edges, counts)
                    self.assertIs(oracle_ranks.counts_hold(placement, site, edges, counts, found), True)
                    self.assertIs(counts_hold(placement, site, edges, counts, found), True)
                    self.assertIs(counts_hold(placement, site, edges, counts, ("none",)), found == ("none",))
                    kinds[found[0]] += 1
        self.assertGreater(min(kinds.values()), 100)

    def test_the_greatest_counts(self):
        rows = ("abcdef", "abc", "bcde", "acef", "df", "abdf")
        placement = (tuple(tuple(row) for row in rows), ())
        edges = tuple((0, k) for k in range(1, 6))
        draw, kinds = Numbers(48), {"writes": 0, "none": 0}
        for _ in range(20):
            counts = tuple(draw.below(5) for _ in edges)
            writes = tuple(draw.below(2) for _ in rows[0])
            for wanted in (counts, oracle_ranks.counts(placement, edges, writes)):
                found = judge_counts(placement, 0, edges, wanted)
                self.check(placement, 0, edges, wanted, found, True)
                self.check(placement, 0, edges, wanted, ("none",), found == ("none",))
                kinds[found[0]] += 1
        self.assertGreater(min(kinds.values()), 5)

    def test_no_edges_at_all(self):
        self.assertEqual(judge_counts(FOUR, 0, (), ())[0], "writes")
        self.check(FOUR, 0, (), (), ("writes", (5, 0, 10 ** 6)), True)
        self.check(FOUR, 0, (), (), ("none",), False)
        self.assertEqual(judge_counts(placement=ALONE, site=1, edges=(), counts=()), ("writes", ()))
        self.check(ALONE, 1, (), (), ("writes", ()), True)
        self.check(ALONE, 1, (), (), ("writes", (0,)), False)

    def test_a_register_that_nobody_else_keeps(self):
        self.check(FOUR, 0, ((0, 1),), (2,), ("writes", (2, 0, 0)), True)
        self.check(FOUR, 0, ((0, 1),), (2,), ("writes", (2, 7, 9)), True)
        self.check(FOUR, 0, ((0, 1),), (2,), ("writes", (1, 0, 0)), False)

    def test_what_is_no_certificate(self):
        edges, counts = ((0, 1), (0, 3)), (1, 2)
        self.check(FOUR, 0, edges, counts, ("writes", (1, 1, 0)), True)
        for thing in (("writes", (1, 1)), ("writes", (1, 1, 0, 0)), ("writes", [1, 1, 0]), ("writes", (True, 1, 0)),
                      ("writes", (1, 1, -1)), ("writes", 1, 1, 0), ("writes",), ["writes", (1, 1, 0)], ("none",),
                      ("none", ()), (), None, "none", ("Writes", (1, 1, 0)), ("writes", (1, 1, "0"))):
            self.check(FOUR, 0, edges, counts, thing, False)
        self.check(FOUR, 0, edges, (2, 1), ("none",), True)
        for thing in (("none", None), ["none"], "none", ("writes", (2, -1, 0)), ("writes", (2, 0, 0))):
            self.check(FOUR, 0, edges, (2, 1), thing, False)


class GroupTests(unittest.TestCase):
    def test_same_site_and_row(self):
        self.assertEqual(groups(FOUR, ((1, 0), (1, 3), (3, 0))), (((1, 0), (1, 3)), ((3, 0),)))
        self.assertEqual(groups(placement=EQUAL, edges=((0, 1), (0, 2), (0, 3))), (((0, 1), (0, 2)), ((0, 3),)))
        self.assertEqual(groups(EQUAL, ()), ())
        self.assertEqual(groups(EMPTY, ()), ())
        self.assertEqual(groups(FULL, oracle.edges_of(FULL)), (((0, 1), (0, 2)), ((1, 0), (1, 2)), ((2, 0), (2, 1))))

    def test_groups_that_lie_within_one_another(self):
        same = ((("a",), ("a", "b"), ("a",), ("b",), ("a", "b")), ())
        edges = ((1, 0), (1, 2), (1, 3), (1, 4), (4, 0), (4, 1), (4, 2))
        self.assertEqual(groups(same, edges), (((1, 0), (1, 2)), ((1, 3),), ((1, 4),), ((4, 0), (4, 2)), ((4, 1),)))

    def test_as_in_another_reading(self):
        for placement in small_placements() + drawn_placements(10, 49, 5, 4, 0):
            edges = oracle.edges_of(placement)
            for some in [edges, edges[::2], edges[1::3], edges[3:], edges[:5]]:
                self.assertEqual(groups(placement, some), oracle_ranks.groups(placement, some))

    def test_whole_plans(self):
        found = {True: 0, False: 0}
        draw = Numbers(50)
        for placement in small_placements() + [FOUR, EQUAL, LESS]:
            for plan in plans_of(placement, draw):
                wide = whole(placement, plan)
                self.assertEqual(wide, oracle_ranks.whole(placement, plan))
                self.assertEqual(whole(placement=placement, plan=plan), wide)
                self.assertIs(is_whole(placement, plan), wide == plan)
                self.assertIs(is_whole(placement=placement, plan=wide), True)
                self.assertEqual(numbers(placement, plan), oracle_ranks.numbers(placement, plan))
                self.assertEqual(numbers(placement=placement, plan=wide), oracle_ranks.numbers(placement, wide))
                found[wide == plan] += 1
        self.assertGreater(min(found.values()), 50)

    def test_the_whole_of_an_enough_plan(self):
        draw, grown = Numbers(51), 0
        for placement in small_placements() + [FOUR, EQUAL, LESS] + drawn_placements(30, 52, 5, 6, 0):
            for plan in plans_of(placement, draw):
                if not oracle_runs.lacking(placement, plan):
                    wide = whole(placement, plan)
                    self.assertIs(is_enough(placement, wide), True)
                    self.assertEqual(numbers(placement, wide), numbers(placement, plan))
                    grown += wide != plan
        self.assertGreater(grown, 20)

    def test_counts_of_a_group_stay_equal(self):
        draw = Numbers(53)
        for placement in small_placements() + [FOUR, EQUAL, LESS]:
            for plan in plans_of(placement, draw):
                wide = whole(placement, plan)
                run = drawn_run(placement, wide, draw, 12)
                for length in range(len(run) + 1):
                    for place, row in enumerate(wide):
                        counted = dict(zip(row, counts_after(placement, wide, run[:length], place)))
                        for group in groups(placement, row):
                            self.assertEqual(len({counted[edge] for edge in group}), 1)

    def test_named_plans(self):
        edges = oracle.edges_of(FULL)
        self.assertEqual(numbers(FULL, full_plan(FULL)), (3, 3, 3))
        self.assertIs(is_whole(FULL, (((0, 1), (0, 2), (1, 0), (2, 0)), edges, edges)), False)
        self.assertEqual(whole(FULL, (((0, 1), (0, 2), (1, 0), (2, 0)), edges, edges)), (edges, edges, edges))
        self.assertIs(is_whole(STAR, oracle_runs.own(STAR)), True)
        self.assertEqual(numbers(JOINED, oracle_runs.own(JOINED)), (2, 4, 2, 0))
        self.assertEqual((numbers(EMPTY, ()), whole(EMPTY, ()), is_whole(EMPTY, ())), ((), (), True))


if __name__ == "__main__":
    unittest.main()
