"""[3.1] Needed edges and [3.2] Plans."""

import unittest

from causeloops.needs import counters, full_plan, is_enough, is_plan, lacking, least_plan, needed
from tests import oracle, oracle_runs
from tests.draws import between, plans_of, without_edges
from tests.samples import (ALONE, EMPTY, FULL, HEARD, JOINED, LINE, NAMED, RING, STAR, THREE, Numbers,
                           many_placements, strange_values, variants)

PARTS = (None, True, 0, -1, "a", (), [], (0, 1), [0, 1], ((0, 1),), ((0, 1), (1, 0)), ((1, 0), (0, 1)), (0, 0), (0, 2))


class NeededTests(unittest.TestCase):
    def test_sites_of_a_line_need_their_own_edges(self):
        self.assertEqual(needed(LINE, 0), ((0, 1), (1, 0)))
        self.assertEqual(needed(LINE, 1), ((0, 1), (1, 0), (1, 2), (2, 1)))
        self.assertEqual(needed(placement=LINE, place=2), ((1, 2), (2, 1)))

    def test_a_client_joins_a_line(self):
        for place in range(4):
            self.assertEqual(needed(JOINED, place), ((0, 1), (1, 0), (1, 2), (2, 1)))

    def test_star_ring_and_full(self):
        self.assertEqual(needed(STAR, 2), ((0, 2), (2, 0)))
        for placement in (RING, FULL, THREE):
            for place in range(oracle.places_of(placement)):
                self.assertEqual(needed(placement, place), oracle.edges_of(placement))

    def test_some_of_the_others(self):
        self.assertEqual(needed(HEARD, 0), oracle_runs.needed(HEARD, 0))
        self.assertNotIn((1, 2), needed(HEARD, 0))
        self.assertIn((1, 3), needed(HEARD, 0))

    def test_a_client_has_no_own_edges(self):
        both = ((("a",), ("a",)), ((0, 1),))
        self.assertEqual(needed(both, 2), ((0, 1), (1, 0)))
        apart = ((("a",), ("a",), ("b",)), ((0, 2),))
        self.assertEqual(needed(apart, 3), ())
        self.assertEqual(needed(ALONE, 3), ())

    def test_as_in_a_search_for_all_loops(self):
        for placement in many_placements():
            self.assertEqual(least_plan(placement), oracle_runs.least(placement), placement)
            for place, row in enumerate(least_plan(placement)):
                self.assertEqual(needed(placement, place), row)


class PlanTests(unittest.TestCase):
    def check(self, placement, thing, answer):
        self.assertIs(is_plan(placement, thing), answer, thing)
        self.assertIs(is_plan(placement=placement, thing=thing), answer, thing)

    def test_least_and_full(self):
        for placement in NAMED:
            self.check(placement, least_plan(placement), True)
            self.check(placement, full_plan(placement), True)
            self.assertEqual(full_plan(placement=placement),
                             tuple(oracle.edges_of(placement) for _ in range(oracle.places_of(placement))))
            self.assertEqual(least_plan(placement=placement), oracle_runs.least(placement))
        self.assertEqual((least_plan(EMPTY), full_plan(EMPTY)), ((), ()))
        self.check(EMPTY, (), True)

    def test_a_plan_need_not_be_enough(self):
        for placement in NAMED:
            self.check(placement, oracle_runs.own(placement), True)
        self.check(JOINED, oracle_runs.own(JOINED), True)
        self.assertEqual(oracle_runs.own(JOINED)[3], ())

    def test_without_an_own_edge(self):
        for placement in NAMED:
            for plan in (least_plan(placement), full_plan(placement)):
                for place, row in enumerate(plan):
                    for edge in row:
                        thing = without_edges(placement, plan, [(place, edge)])
                        self.check(placement, thing, place not in edge)

    def test_of_another_placement(self):
        self.check(JOINED, least_plan(LINE), False)
        self.check(LINE, least_plan(JOINED), False)
        self.check(THREE, full_plan(LINE), False)
        self.check(LINE, full_plan(THREE), False)

    def test_edges_are_ascending(self):
        own, others = ((0, 1), (1, 0)), ((1, 2), (2, 1))
        rest = (own + others, others, ())
        self.check(JOINED, (own,) + rest, True)
        self.check(JOINED, (own + others,) + rest, True)
        self.check(JOINED, (own + ((2, 1),),) + rest, True)
        for row in (own[::-1], others + own, own + own, ((0, 1), (0, 1), (1, 0)), own + ((2, 1), (1, 2))):
            self.check(JOINED, (row,) + rest, False)
        self.check(JOINED, (own,) + rest[:2] + (((2, 1), (1, 2)),), False)

    def test_what_is_no_edge(self):
        own, rest = ((0, 1), (1, 0)), least_plan(JOINED)[1:]
        for item in ((0, 2), (0, 3), (3, 0), (2, 2), (1, 5), (1,), (1, 2, 0), [1, 2], (1, True), (True, 2), "12", None, 3):
            self.check(JOINED, (own + (item,),) + rest, False)
            self.check(JOINED, (own,) + rest[:2] + ((item,),), False)
        self.check(JOINED, (((0, True), (1, 0)),) + rest, False)
        self.check(JOINED, (((False, 1), (1, 0)),) + rest, False)

    def test_strange_values(self):
        for placement in NAMED:
            for thing in strange_values():
                self.check(placement, thing, oracle_runs.is_plan(placement, thing))

    def test_variants(self):
        found = {True: 0, False: 0}
        for placement in (LINE, JOINED, THREE, ALONE):
            for plan in (least_plan(placement), oracle_runs.own(placement), full_plan(placement)):
                for thing in variants(plan, PARTS):
                    answer = oracle_runs.is_plan(placement, thing)
                    self.check(placement, thing, answer)
                    found[answer] += 1
        self.assertGreater(min(found.values()), 30)


class EnoughTests(unittest.TestCase):
    def test_least_and_full_are_enough(self):
        for placement in NAMED:
            for plan in (least_plan(placement), full_plan(placement)):
                self.assertIs(is_enough(placement, plan), True)
                self.assertEqual(lacking(placement, plan), ())

    def test_by_a_client_alone(self):
        plan = full_plan(JOINED)[:3]
        self.assertIs(is_enough(JOINED, plan + (((0, 1), (1, 0), (1, 2)),)), False)
        self.assertEqual(lacking(JOINED, plan + (((0, 1), (1, 0), (1, 2)),)), ((3, (2, 1)),))
        self.assertEqual(len(lacking(placement=JOINED, plan=plan + ((),))), 4)

    def test_more_than_the_least(self):
        plan = (((0, 1), (1, 0), (1, 2)),) + least_plan(LINE)[1:]
        self.assertIs(is_enough(placement=LINE, plan=plan), True)
        self.assertEqual(counters(placement=LINE, plan=plan), 9)

    def test_drawn_plans(self):
        numbers = Numbers(51)
        found = {True: 0, False: 0}
        for placement in many_placements()[::3]:
            for plan in plans_of(placement, numbers):
                self.assertIs(is_plan(placement, plan), True)
                pairs = oracle_runs.lacking(placement, plan)
                self.assertEqual(lacking(placement, plan), pairs)
                self.assertIs(is_enough(placement, plan), not pairs)
                self.assertEqual(counters(placement, plan), sum(map(len, plan)))
                found[not pairs] += 1
        self.assertGreater(min(found.values()), 100)

    def test_there_is_one_least_plan(self):
        """[0.3]: a plan is enough exactly if it counts all that the least plan counts."""
        numbers = Numbers(52)
        for placement in NAMED:
            least, full = least_plan(placement), full_plan(placement)
            for plan in [between(placement, oracle_runs.own(placement), full, 8, numbers) for _ in range(5)]:
                above = all(set(low) <= set(row) for low, row in zip(least, plan))
                self.assertIs(is_enough(placement, plan), above)
            for place, row in enumerate(least):
                for edge in row:
                    if place not in edge:
                        poor = without_edges(placement, full, [(place, edge)])
                        self.assertEqual(lacking(placement, poor), ((place, edge),))


if __name__ == "__main__":
    unittest.main()
