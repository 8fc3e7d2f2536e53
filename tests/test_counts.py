"""[4.1] Counts, [4.2] Writing, [4.3] Applying and [4.4] Visiting."""

import unittest

from causeloops.counts import applied, are_counts, is_update, may_apply, may_visit, new_counts, visited, written
from causeloops.errors import NotReady
from causeloops.needs import full_plan, least_plan
from tests import oracle, oracle_runs
from tests.draws import plans_of, small_placements
from tests.samples import ALONE, EMPTY, FULL, JOINED, LINE, NAMED, THREE, Numbers, strange_values, told, variants

PLAN = least_plan(THREE)
ZERO = (0, 0, 0, 0, 0, 0)
# 0 does not count (1, 2): it cannot pass it on.
POOR = (((0, 1), (0, 2), (1, 0), (2, 0), (2, 1)),) + PLAN[1:]
# The site 3 keeps two registers, one of them alone.
OWNER = ((("a",), ("a",), ("b",), ("a", "z")), ())
NOT_READY = (NotReady, {})


class CountsTests(unittest.TestCase):
    def test_new_counts(self):
        self.assertEqual(new_counts(THREE, PLAN, 1), ZERO)
        self.assertEqual(new_counts(placement=THREE, plan=POOR, place=0), (0,) * 5)
        self.assertEqual(new_counts(JOINED, oracle_runs.own(JOINED), 3), ())
        for placement in NAMED:
            for plan in (least_plan(placement), full_plan(placement), oracle_runs.own(placement)):
                for place, row in enumerate(plan):
                    self.assertEqual(new_counts(placement, plan, place), tuple(0 for _ in row))
                    self.assertIs(are_counts(placement, plan, place, new_counts(placement, plan, place)), True)

    def test_are_counts(self):
        for thing in (ZERO, (5,) * 6, (0, 0, 0, 0, 0, 10 ** 39), (1, 2, 3, 4, 5, 6)):
            self.assertIs(are_counts(THREE, PLAN, 0, thing), True)
            self.assertIs(are_counts(placement=THREE, plan=PLAN, place=0, thing=thing), True)
        wrong = [ZERO[1:], ZERO + (0,), list(ZERO), (-1,) + ZERO[1:], (True,) + ZERO[1:], ("0",) + ZERO[1:],
                 (None,) + ZERO[1:], ZERO[1:] + (False,), "000000", {at: 0 for at in range(6)}, (ZERO,)]
        for thing in wrong + strange_values():
            self.assertIs(are_counts(THREE, PLAN, 0, thing), False)
            self.assertIs(are_counts(THREE, PLAN, thing=thing, place=0), False)

    def test_counts_of_a_place_that_counts_less(self):
        self.assertIs(are_counts(THREE, POOR, 0, ZERO), False)
        self.assertIs(are_counts(THREE, POOR, 0, (0,) * 5), True)
        self.assertIs(are_counts(THREE, POOR, 1, ZERO), True)
        for thing in strange_values():
            self.assertIs(are_counts(JOINED, oracle_runs.own(JOINED), 3, thing), thing == ())

    def test_are_counts_of_variants(self):
        for thing in variants((0, 1, 2, 0), (None, True, 0, 5, -1, "a", (), [0])):
            for place in range(4):
                answer = oracle_runs.are_counts(least_plan(JOINED), place, thing)
                self.assertIs(are_counts(JOINED, least_plan(JOINED), place, thing), answer)

    def test_is_update(self):
        good = (1, "b", ZERO)
        for thing in (good, (1, "c", ZERO), (0, "a", (9,) * 6)):
            self.assertIs(is_update(THREE, PLAN, thing), True)
            self.assertIs(is_update(placement=THREE, plan=PLAN, thing=thing), True)
        parts = (None, True, False, 0, 1, 2, 3, -1, "a", "b", "c", "d", (), ZERO, (0,) * 5, [], list(ZERO))
        found = {True: 0, False: 0}
        for thing in variants(good, parts) + strange_values():
            answer = oracle_runs.is_update(THREE, PLAN, thing)
            self.assertIs(is_update(THREE, PLAN, thing), answer, thing)
            found[answer] += 1
        self.assertGreater(min(found.values()), 10)

    def test_is_update_goes_by_the_plan(self):
        self.assertIs(is_update(THREE, POOR, (0, "a", (0,) * 5)), True)
        self.assertIs(is_update(THREE, POOR, (0, "a", ZERO)), False)
        self.assertIs(is_update(JOINED, least_plan(JOINED), (3, "a", (0,) * 4)), False)
        self.assertIs(is_update(ALONE, least_plan(ALONE), (0, "a", ())), True)
        self.assertIs(is_update(ALONE, least_plan(ALONE), (1, "a", ())), False)
        self.assertIs(is_update(EMPTY, (), (0, "a", ())), False)


class WrittenTests(unittest.TestCase):
    def test_each_other_site_that_keeps_it(self):
        self.assertEqual(written(THREE, PLAN, 1, ZERO, "c"), (0, 0, 0, 1, 0, 0))
        self.assertEqual(written(THREE, PLAN, 1, (1, 2, 3, 4, 5, 6), "b"), (1, 2, 4, 4, 5, 6))
        self.assertEqual(written(placement=FULL, plan=full_plan(FULL), place=0, counts=ZERO, register="a"),
                         (1, 1, 0, 0, 0, 0))

    def test_a_register_that_nobody_else_keeps(self):
        plan = least_plan(OWNER)
        counts = new_counts(OWNER, plan, 3)
        self.assertEqual(written(OWNER, plan, 3, counts, "z"), counts)
        self.assertEqual(written(OWNER, plan, 2, (), "b"), ())
        self.assertNotEqual(written(OWNER, plan, 3, counts, "a"), counts)

    def test_counts_of_no_run(self):
        self.assertEqual(written(THREE, PLAN, 0, (10 ** 39 - 2, 0, 7, 7, 7, 7), "b"), (10 ** 39 - 1, 0, 7, 7, 7, 7))

    def test_drawn(self):
        numbers = Numbers(61)
        for placement in small_placements():
            for plan in plans_of(placement, numbers):
                for site in range(oracle.sites_of(placement)):
                    counts = tuple(numbers.below(4) for _ in plan[site])
                    table = oracle_runs.by_edge(plan, site, counts)
                    for register in oracle.kept(placement, site):
                        after = oracle_runs.write(placement, site, register, table)
                        answer = written(placement, plan, site, counts, register)
                        self.assertEqual(answer, oracle_runs.in_order(plan, site, after))


class AppliedTests(unittest.TestCase):
    def check(self, placement, plan, place, counts, update):
        """The counts afterwards, None if the update is not ready."""
        theirs = oracle_runs.by_edge(plan, update[0], update[2])
        mine = oracle_runs.by_edge(plan, place, counts)
        ready = oracle_runs.update_ready(update[0], theirs, place, mine)
        values = {"placement": placement, "plan": plan, "place": place, "counts": counts, "update": update}
        self.assertIs(told(may_apply, *values.values()), ready, values)
        self.assertIs(told(may_apply, **values), ready, values)
        answer = told(applied, **values)
        self.assertEqual(told(applied, *values.values()), answer)
        if not ready:
            self.assertEqual(answer, NOT_READY)
            return None
        self.assertEqual(answer, oracle_runs.in_order(plan, place, oracle_runs.merge(mine, theirs)))
        return answer

    def test_the_next_one(self):
        self.assertEqual(self.check(THREE, PLAN, 0, ZERO, (1, "b", (0, 0, 1, 1, 0, 0))), (0, 0, 1, 1, 0, 0))
        self.assertEqual(self.check(THREE, PLAN, 0, (5, 4, 3, 2, 1, 0), (1, "b", (0, 9, 4, 1, 1, 0))), (5, 9, 4, 2, 1, 0))

    def test_one_too_early_and_one_too_late(self):
        for count in range(6):
            answer = self.check(THREE, PLAN, 0, (0, 0, 3, 0, 0, 0), (1, "b", (0, 0, count, 0, 0, 0)))
            self.assertEqual(answer, (0, 0, 4, 0, 0, 0) if count == 4 else None)

    def test_another_edge_to_the_site(self):
        for count, answer in ((0, (0, 0, 1, 0, 2, 0)), (1, (0, 0, 1, 0, 2, 0)), (2, (0, 0, 1, 0, 2, 0)), (3, None)):
            self.assertEqual(self.check(THREE, PLAN, 0, (0, 0, 0, 0, 2, 0), (1, "b", (0, 0, 1, 0, count, 0))), answer)

    def test_edges_to_others_do_not_matter(self):
        self.assertEqual(self.check(THREE, PLAN, 0, ZERO, (1, "b", (9, 9, 1, 9, 0, 9))), (9, 9, 1, 9, 0, 9))
        self.assertEqual(self.check(THREE, PLAN, 0, (9, 9, 0, 9, 9, 9), (1, "b", (0, 0, 1, 0, 0, 0))), (9, 9, 1, 9, 9, 9))

    def test_edges_that_only_one_of_them_counts(self):
        self.assertEqual(POOR[0], ((0, 1), (0, 2), (1, 0), (2, 0), (2, 1)))
        self.assertEqual(self.check(THREE, POOR, 0, (0,) * 5, (1, "b", (0, 0, 1, 7, 0, 0))), (0, 0, 1, 0, 0))
        self.assertEqual(self.check(THREE, POOR, 2, ZERO, (0, "a", (0, 1, 9, 0, 0))), (0, 1, 9, 0, 0, 0))
        self.assertIsNone(self.check(THREE, POOR, 2, ZERO, (0, "a", (0, 2, 9, 0, 0))))
        own = oracle_runs.own(THREE)
        self.assertEqual(own[0], ((0, 1), (0, 2), (1, 0), (2, 0)))
        self.assertEqual(own[1], ((0, 1), (1, 0), (1, 2), (2, 1)))
        # (2, 0) is not counted at 1, (1, 2) is not at 0: neither is passed on.
        self.assertEqual(self.check(THREE, own, 0, (3, 4, 5, 6), (1, "b", (7, 6, 9, 9))), (7, 4, 6, 6))

    def test_twice(self):
        update = (1, "b", (0, 0, 1, 0, 0, 0))
        after = self.check(THREE, PLAN, 0, ZERO, update)
        self.assertIsNone(self.check(THREE, PLAN, 0, after, update))

    def test_clients_edges_are_passed_like_others(self):
        plan = least_plan(JOINED)
        self.assertEqual(self.check(JOINED, plan, 0, (0, 0, 0, 0), (1, "a", (0, 1, 1, 0))), (0, 1, 1, 0))
        self.assertEqual(self.check(JOINED, plan, 2, (0, 1, 0, 0), (1, "b", (0, 0, 1, 3))), (0, 1, 1, 3))

    def test_drawn(self):
        numbers = Numbers(62)
        found = {True: 0, False: 0}
        for placement in small_placements():
            for plan in plans_of(placement, numbers):
                for edge in oracle.edges_of(placement):
                    register = sorted(oracle.kept(placement, edge[0]) & oracle.kept(placement, edge[1]))[0]
                    sent = tuple(numbers.below(2) + (one == edge) for one in plan[edge[0]])
                    counts = tuple(int(one != edge and numbers.below(4) > 0) for one in plan[edge[1]])
                    answer = self.check(placement, plan, edge[1], counts, (edge[0], register, sent))
                    found[answer is not None] += 1
        self.assertGreater(min(found.values()), 100)


class VisitedTests(unittest.TestCase):
    def check(self, placement, plan, client, site, mine, its):
        """The pair of the counts afterwards, None if the client is not ready."""
        first, second = oracle_runs.by_edge(plan, client, mine), oracle_runs.by_edge(plan, site, its)
        ready = oracle_runs.visit_ready(first, site, second)
        values = {"placement": placement, "plan": plan, "client": client, "site": site, "mine": mine, "its": its}
        self.assertIs(told(may_visit, *values.values()), ready, values)
        self.assertIs(told(may_visit, **values), ready, values)
        answer = told(visited, **values)
        self.assertEqual(told(visited, *values.values()), answer)
        if not ready:
            self.assertEqual(answer, NOT_READY)
            return None
        pair = (oracle_runs.in_order(plan, client, oracle_runs.merge(first, second)),
                oracle_runs.in_order(plan, site, oracle_runs.merge(second, first)))
        self.assertEqual(answer, pair)
        return answer

    def test_both_take_the_greater_counts(self):
        plan = least_plan(JOINED)
        self.assertEqual(plan[3], ((0, 1), (1, 0), (1, 2), (2, 1)))
        self.assertEqual(self.check(JOINED, plan, 3, 0, (1, 0, 5, 2), (4, 1, 3, 2)), ((4, 1, 5, 2), (4, 1, 5, 2)))
        self.assertEqual(self.check(JOINED, plan, 3, 2, (0,) * 4, (0,) * 4), ((0,) * 4, (0,) * 4))

    def test_ready(self):
        plan = least_plan(JOINED)
        for count in range(4):
            answer = self.check(JOINED, plan, 3, 0, (9, count, 9, 9), (0, 2, 0, 0))
            self.assertEqual(answer, ((9, 2, 9, 9),) * 2 if count <= 2 else None)
            answer = self.check(JOINED, plan, 3, 2, (9, 9, count, 9), (0, 0, 2, 0))
            self.assertEqual(answer, ((9, 9, 2, 9),) * 2 if count <= 2 else None)

    def test_edges_from_the_site_make_nobody_wait(self):
        """Such counts occur in no run: the site itself counts what it sent."""
        plan = least_plan(JOINED)
        self.assertEqual(self.check(JOINED, plan, 3, 0, (7, 0, 0, 0), (0, 0, 0, 0)), ((7, 0, 0, 0),) * 2)

    def test_edges_that_only_one_of_them_counts(self):
        own = oracle_runs.own(JOINED)
        self.assertEqual(self.check(JOINED, own, 3, 0, (), (4, 1)), ((), (4, 1)))
        plan = own[:3] + (((1, 0), (2, 1)),)
        self.assertEqual(self.check(JOINED, plan, 3, 0, (1, 5), (4, 1)), ((1, 5), (4, 1)))
        self.assertEqual(self.check(JOINED, plan, 3, 0, (0, 5), (4, 1)), ((1, 5), (4, 1)))
        self.assertIsNone(self.check(JOINED, plan, 3, 0, (2, 5), (4, 1)))
        self.assertEqual(self.check(JOINED, plan, 3, 2, (2, 5), (4, 1)), ((2, 5), (4, 5)))

    def test_full_plan_with_two_clients(self):
        plan = full_plan(ALONE)
        self.assertEqual(self.check(ALONE, plan, 3, 1, (), ()), ((), ()))
        self.assertEqual(self.check(ALONE, plan, 4, 2, (), ()), ((), ()))

    def test_drawn(self):
        numbers = Numbers(63)
        found = {True: 0, False: 0}
        for placement in small_placements():
            sites = oracle.sites_of(placement)
            for plan in plans_of(placement, numbers):
                for at, row in enumerate(placement[1]):
                    for site in row:
                        mine = tuple(numbers.below(4) // 2 for _ in plan[sites + at])
                        its = tuple(1 - (numbers.below(3) == 0) for _ in plan[site])
                        answer = self.check(placement, plan, sites + at, site, mine, its)
                        found[answer is not None] += 1
        self.assertGreater(min(found.values()), 100)


if __name__ == "__main__":
    unittest.main()
