"""[12.1] Histories, [12.2] Free histories, [12.3] Certificates and [12.4] Stores with enough plans."""

import unittest

from causeloops.errors import BadHistory
from causeloops.needs import is_enough, least_plan
from causeloops.runs import is_run
from causeloops.stores import Store
from causeloops.views import history, history_holds, is_free, is_history, judge_history, known_after, replayed, run_of
from tests import oracle, oracle_runs, oracle_stores
from tests.deeds import drawn_store, visits
from tests.draws import plans_of, small_placements
from tests.samples import ALONE, EMPTY, JOINED, LINE, NAMED, Numbers, drawn_placements, strange_values, told, variants

PLAN = least_plan(JOINED)
BLIND = oracle_runs.own(JOINED)
ROWS = (("write", 1, "b", 5), ("write", 1, "a", 6), ("apply", 0, 1), ("visit", 3, 0), ("read", 3, 0, "a", 6))
BAD = ROWS + (("visit", 3, 2), ("read", 3, 2, "b", None))
PARTS = (None, True, False, 0, 1, 2, 3, 5, 6, -1, "a", "b", "write", "apply", "visit", "read", (), [], ROWS[0], ROWS[3], ROWS[4])


def shop_with_rows():
    shop = Store(JOINED, PLAN)
    shop.write(1, "b", 5)
    shop.write(1, "a", 6)
    shop.apply(0, 1)
    shop.read(3, 0, "a")
    return shop


def drawn_rows(placement, draw, length, writes=24):
    """A free history: nothing has to be ready, values that are read are any of some."""
    rows = []
    kept = [(site, x) for site, row in enumerate(placement[0]) for x in row]
    reads = [visit + (x,) for visit in visits(placement) for x in placement[0][visit[1]]]
    for _ in range(length):
        count = len(oracle_stores.writes_of(rows))
        choices = [[("write", site, x, draw.below(3)) for site, x in kept if count < writes]] * 2
        choices += [[("apply", site, number) for site in range(len(placement[0])) for number in range(count)]] * 3
        choices += [[("visit",) + pair for pair in visits(placement)]] * 2
        choices += [[("read",) + read + (value,) for read in reads for value in (0, 1, 2, None)]] * 2
        rows_now = choices[draw.below(len(choices))]
        good = [row for row in rows_now if oracle_stores.can_come(placement, rows, row)]
        if good:
            rows.append(good[draw.below(len(good))])
    return tuple(rows)


def reading_placements():
    return [placement for placement in small_placements() if placement[1]] + drawn_placements(6, 101, 2, 2, 1)


class HistoryTests(unittest.TestCase):
    def test_rows_in_order(self):
        shop = shop_with_rows()
        self.assertEqual(history(shop), ROWS)
        self.assertEqual(history(store=shop), ROWS)
        self.assertEqual(run_of(shop), (("write", 1, "b"), ("write", 1, "a"), ("apply", 0, 1), ("visit", 3, 0)))
        self.assertEqual(run_of(store=shop), run_of(shop))

    def test_values_that_are_looked_at_have_no_row(self):
        shop = shop_with_rows()
        shop.value(0, "a")
        shop.counts(3)
        shop.waiting()
        self.assertEqual(history(shop), ROWS)

    def test_settling_and_writing_as_a_client(self):
        shop = shop_with_rows()
        shop.settle()
        shop.put(3, 2, "b", 0)
        self.assertEqual(history(shop)[5:], (("apply", 2, 0), ("visit", 3, 2), ("write", 2, "b", 0), ("visit", 3, 2)))

    def test_replayed_stores_are_equal(self):
        draw = Numbers(102)
        for placement in small_placements():
            for plan in plans_of(placement, draw)[::2]:
                store, _ = drawn_store(placement, plan, draw, 12)
                rows = history(store)
                self.assertIs(is_history(placement, plan, rows), True)
                self.assertIs(is_run(placement, plan, run_of(store)), True)
                for twin in (replayed(placement, plan, rows), replayed(placement=placement, plan=plan, thing=rows)):
                    self.assertEqual((twin, history(twin)), (store, rows))
                self.assertIs(is_free(placement, rows), True)

    def test_a_replayed_store_goes_on(self):
        shop, twin = shop_with_rows(), replayed(JOINED, PLAN, ROWS)
        self.assertEqual(twin.write(0, "a", 1), 2)
        self.assertEqual((history(shop), history(twin)), (ROWS, ROWS + (("write", 0, "a", 1),)))


class IsHistoryTests(unittest.TestCase):
    def check(self, placement, plan, thing, at):
        """at is the position of the first row that is not possible, True for a history, None for no tuple."""
        self.assertIs(is_history(placement, plan, thing), at is True, thing)
        self.assertIs(is_history(placement=placement, plan=plan, thing=thing), at is True)
        answer = told(replayed, placement, plan, thing)
        if at is True:
            self.assertEqual(history(answer), thing)
        else:
            self.assertEqual(answer, (BadHistory, {"at": at}), thing)

    def test_named(self):
        self.check(JOINED, PLAN, ROWS, True)
        self.check(JOINED, PLAN, (), True)
        self.check(EMPTY, (), (), True)
        self.check(JOINED, PLAN, BAD, 5)
        self.check(JOINED, BLIND, BAD, True)
        self.check(JOINED, PLAN, list(ROWS), None)
        self.check(JOINED, PLAN, None, None)
        self.check(JOINED, PLAN, "", None)

    def test_a_read_row_stands_behind_its_visit(self):
        visit, read = ROWS[3:]
        self.check(JOINED, PLAN, ROWS[:3] + (read,), 3)
        self.check(JOINED, PLAN, ROWS + (read,), 5)
        self.check(JOINED, PLAN, ROWS + (visit, visit, read, visit), True)
        self.check(JOINED, PLAN, ROWS[:4] + (("write", 0, "a", 1), ("read", 3, 0, "a", 1)), 5)
        self.check(JOINED, PLAN, (("visit", 3, 2), ("read", 3, 0, "a", None)), 1)
        self.check(JOINED, PLAN, (("visit", 3, 0), ("read", 3, 0, "a", None)), True)
        two = (LINE[0], ((0, 2), (0, 2)))
        self.check(two, least_plan(two), (("visit", 3, 0), ("read", 4, 0, "a", None)), 1)
        self.check(two, least_plan(two), (("read", 3, 0, "a", None),), 0)

    def test_the_value_that_is_there(self):
        for value in (5, 7, None, "6", True, (6,), -6):
            self.check(JOINED, PLAN, ROWS[:4] + (("read", 3, 0, "a", value),), 4)
        one = (("write", 0, "a", 1), ("visit", 3, 0), ("read", 3, 0, "a", 1))
        self.check(JOINED, PLAN, one, True)
        self.check(JOINED, PLAN, one[:2] + (("read", 3, 0, "a", True),), 2)
        zero = (("write", 0, "a", 0), ("visit", 3, 0), ("read", 3, 0, "a", 0))
        self.check(JOINED, PLAN, zero, True)
        for value in (False, None):
            self.check(JOINED, PLAN, zero[:2] + (("read", 3, 0, "a", value),), 2)
        self.check(JOINED, PLAN, (("visit", 3, 0), ("read", 3, 0, "a", 0)), 1)

    def test_behind_the_visits_of_a_client_that_wrote(self):
        rows = (("visit", 3, 0), ("write", 0, "a", 4), ("visit", 3, 0), ("read", 3, 0, "a", 4))
        self.check(JOINED, PLAN, rows, True)

    def test_what_is_no_row(self):
        for row in (("write", 1, "b"), ("write", 1, "b", None), ("write", 1, "b", True), ("write", 1, "b", 5, 5),
                    ("write", 0, "b", 5), ("write", 3, "a", 5), ("apply", 2), ("apply", 2, 0, 5), ("apply", 1, 0),
                    ("apply", 2, 1), ("apply", 2, False), ("apply", 2, -1), ("visit", 3), ("visit", 3, 1),
                    ("visit", 3, 2, 1), ("visit", 2, 3), ("read", 3, 0), ("read", 3, 0, "a"), ("read", 3, 0, "b", 5),
                    ("get", 3, 0, "a", 6), ("settle",), (), None, 0, "write", ["visit", 3, 0], ("Visit", 3, 0)):
            self.check(JOINED, PLAN, ROWS[:2] + (row,), 2)
        self.check(JOINED, PLAN, ROWS[:2] + (("apply", 2, 0), ("apply", 2, 0)), 3)

    def test_variants(self):
        found = {True: 0, False: 0}
        for plan in (PLAN, BLIND):
            for good in (ROWS, BAD, ROWS[:2] + (("apply", 2, 0), ("visit", 3, 2), ("read", 3, 2, "b", 5))):
                for thing in variants(good, PARTS) + strange_values():
                    shop = oracle_stores.store_of(JOINED, plan, thing)
                    self.check(JOINED, plan, thing, True if isinstance(shop, oracle_stores.Shop) else shop)
                    found[isinstance(shop, oracle_stores.Shop)] += 1
        self.assertGreater(min(found.values()), 100)

    def test_free_histories_that_are_none_of_a_store(self):
        draw, found = Numbers(103), {True: 0, False: 0}
        for placement in reading_placements():
            plan = least_plan(placement)
            for _ in range(4):
                rows = drawn_rows(placement, draw, 8)
                shop = oracle_stores.store_of(placement, plan, rows)
                self.check(placement, plan, rows, True if isinstance(shop, oracle_stores.Shop) else shop)
                found[isinstance(shop, oracle_stores.Shop)] += 1
        self.assertGreater(min(found.values()), 5)


class FreeTests(unittest.TestCase):
    def check(self, placement, thing, answer):
        self.assertIs(is_free(placement, thing), answer, thing)
        self.assertIs(is_free(placement=placement, thing=thing), answer, thing)

    def test_nothing_has_to_be_ready(self):
        self.check(JOINED, BAD, True)
        self.check(JOINED, (), True)
        self.check(EMPTY, (), True)
        rows = (("write", 1, "b", 5), ("write", 1, "b", 6), ("apply", 2, 1), ("apply", 2, 0))
        self.check(JOINED, rows, True)
        self.check(JOINED, (("read", 3, 0, "a", 77), ("read", 3, 0, "a", None), ("read", 3, 2, "b", -1)), True)

    def test_rows_that_are_not_as_they_must_be(self):
        start = (("write", 1, "b", 5), ("write", 0, "a", 6))
        self.check(JOINED, start + (("apply", 2, 0), ("apply", 1, 1)), True)
        for row in (("apply", 2, 1), ("apply", 1, 0), ("apply", 0, 1), ("apply", 0, 0), ("apply", 2, 2), ("apply", 3, 1),
                    ("apply", 2, -1), ("apply", 2, False), ("visit", 3, 1), ("visit", 4, 0), ("visit", 0, 3),
                    ("read", 3, 1, "a", 1), ("read", 3, 0, "b", 1), ("read", 3, 0, "a", "1"), ("read", 3, 0, "a", True),
                    ("read", 0, 0, "a", 1), ("read", 3, 0, "a"), ("write", 0, "a"), ("write", 0, "a", None),
                    ("write", 0, "a", False), ("write", 0, "b", 1), ("write", 3, "a", 1), ("write", False, "a", 1), (),
                    None, ["visit", 3, 0], ("settle", 0, 0), ("get", 3, 0, "a", 1), ("keep", 0, "a", 1)):
            self.check(JOINED, start + (row,), False)
        self.check(JOINED, start + (("apply", 2, 0), ("apply", 2, 0)), False)
        self.check(JOINED, (("apply", 2, 0),) + start, False)
        self.check(JOINED, list(start), False)

    def test_variants(self):
        found = {True: 0, False: 0}
        for good in (BAD, ROWS, (("write", 0, "a", 1), ("apply", 1, 0), ("read", 3, 0, "a", None))):
            for thing in variants(good, PARTS) + strange_values():
                answer = oracle_stores.is_free(JOINED, thing)
                self.check(JOINED, thing, answer)
                found[answer] += 1
        self.assertGreater(min(found.values()), 100)

    def test_drawn(self):
        draw = Numbers(104)
        for placement in list(NAMED) + reading_placements():
            self.check(placement, drawn_rows(placement, draw, 12), True)


class CertificateTests(unittest.TestCase):
    def check(self, placement, rows, good):
        self.assertEqual(judge_history(placement, rows), good, rows)
        self.assertEqual(judge_history(placement=placement, rows=rows), good)
        for thing in [("causal",)] + [("old", at) for at in range(-1, len(rows) + 1)]:
            self.assertIs(history_holds(placement, rows, thing), thing == good)
            self.assertIs(history_holds(placement=placement, rows=rows, thing=thing), thing == good)

    def test_named(self):
        self.check(JOINED, BAD, ("old", 6))
        self.check(JOINED, ROWS, ("causal",))
        self.check(JOINED, (), ("causal",))

    def test_none_is_right_only_if_nothing_is_known(self):
        self.check(JOINED, (("write", 1, "b", 5), ("visit", 3, 2), ("read", 3, 2, "b", None)), ("causal",))
        rows = (("write", 1, "b", 5), ("apply", 2, 0), ("read", 3, 2, "b", None), ("visit", 3, 2), ("read", 3, 2, "b", None))
        self.check(JOINED, rows, ("old", 4))
        self.check(JOINED, rows + (("read", 3, 2, "b", 5), ("read", 3, 0, "a", None)), ("old", 4))

    def test_the_site_must_have_the_update(self):
        rows = (("write", 1, "b", 5), ("write", 1, "a", 6), ("apply", 0, 1), ("visit", 3, 0), ("read", 3, 2, "b", 5))
        self.check(JOINED, rows, ("old", 4))
        self.check(JOINED, rows[:3] + (("apply", 2, 0),) + rows[3:], ("causal",))
        self.check(JOINED, (("read", 3, 0, "a", 1), ("write", 0, "a", 1)), ("old", 0))
        self.check(JOINED, (("write", 0, "a", 1), ("read", 3, 0, "a", 2)), ("old", 1))

    def test_no_visit_before_it_is_needed(self):
        self.check(JOINED, (("write", 0, "a", 1), ("read", 3, 0, "a", 1), ("read", 3, 0, "a", None)), ("causal",))

    def test_a_cause_of_another_update_that_the_client_knows(self):
        rows = (("write", 0, "a", 1), ("write", 0, "a", 2), ("visit", 3, 0))
        self.check(JOINED, rows + (("read", 3, 0, "a", 2),), ("causal",))
        self.check(JOINED, rows + (("read", 3, 0, "a", 1),), ("old", 3))
        # The site has the newer one, but the client does not know it yet.
        self.check(JOINED, rows[:2] + (("read", 3, 0, "a", 1), ("visit", 3, 0), ("read", 3, 0, "a", 1)), ("old", 4))

    def test_updates_without_knowledge_of_each_other(self):
        rows = (("write", 0, "a", 1), ("write", 1, "a", 2), ("apply", 0, 1), ("visit", 3, 0))
        for value in (1, 2):
            self.check(JOINED, rows + (("read", 3, 0, "a", value),), ("causal",))
        self.check(JOINED, rows + (("write", 0, "a", 3), ("visit", 3, 0), ("read", 3, 0, "a", 1)), ("old", 6))

    def test_equal_values_of_several_updates(self):
        rows = (("write", 0, "a", 1), ("write", 0, "a", 2), ("write", 0, "a", 1), ("visit", 3, 0))
        self.check(JOINED, rows + (("read", 3, 0, "a", 1),), ("causal",))
        self.check(JOINED, rows + (("read", 3, 0, "a", 2),), ("old", 4))

    def test_values_of_other_registers(self):
        both = ((("a", "b"), ("a",), ("b",)), ((0, 1),))
        rows = (("write", 0, "a", 1), ("write", 0, "b", 2), ("visit", 3, 0))
        self.check(both, rows + (("read", 3, 0, "a", 2),), ("old", 3))
        self.check(both, rows + (("read", 3, 0, "b", 2), ("read", 3, 0, "a", 1)), ("causal",))

    def test_drawn(self):
        draw, kinds = Numbers(105), {"causal": 0, "old": 0}
        for placement in list(NAMED) + reading_placements():
            for length in (5, 9, 14, 18):
                rows = drawn_rows(placement, draw, length)
                good = oracle_stores.certificate(rows)
                self.check(placement, rows, good)
                kinds[good[0]] += 1
        self.assertGreater(min(kinds.values()), 30)

    def test_what_is_no_certificate(self):
        rows = (("visit", 3, 0), ("read", 3, 0, "a", 1))
        self.check(JOINED, rows, ("old", 1))
        for thing in (("old", True), ("old", (1,)), ("old", "1"), ("old", 1, 1), ("old",), ["old", 1], "old", None, (),
                      ("Old", 1), (1, "old"), ("causal", 1), ["causal"], "causal"):
            self.assertIs(history_holds(JOINED, rows, thing), False)
            self.assertIs(history_holds(JOINED, ROWS, thing), False)
        self.assertIs(history_holds(JOINED, (("read", 3, 0, "a", 1),), ("old", False)), False)
        self.assertIs(history_holds(JOINED, (("read", 3, 0, "a", 1),), ("old", 0)), True)
        for thing in strange_values():
            self.assertIs(history_holds(JOINED, rows, thing), False)


class KnownTests(unittest.TestCase):
    def test_named(self):
        for place, expected in ((0, (0, 1)), (1, (0, 1)), (2, ()), (3, (0, 1))):
            self.assertEqual(known_after(JOINED, ROWS, place), expected)
            self.assertEqual(known_after(placement=JOINED, rows=ROWS, place=place), expected)
        self.assertEqual(known_after(JOINED, BAD, 2), (0, 1))
        self.assertEqual(known_after(ALONE, (), 4), ())

    def test_a_read_row_tells_nothing(self):
        rows = (("write", 0, "a", 1), ("read", 3, 0, "a", 1))
        self.assertEqual(known_after(JOINED, rows, 3), ())

    def test_as_by_walking_back(self):
        draw = Numbers(106)
        for placement in list(NAMED) + reading_placements() + drawn_placements(6, 107, 4, 4, 0):
            rows = drawn_rows(placement, draw, 20)
            for place in range(oracle.places_of(placement)):
                self.assertEqual(known_after(placement, rows, place),
                                 tuple(sorted(oracle_stores.knows(rows, len(rows), place))))

    def test_as_in_the_second_reading_of_runs(self):
        draw = Numbers(108)
        for placement in small_placements()[::2]:
            store, shop = drawn_store(placement, least_plan(placement), draw, 16)
            for place, known in enumerate(shop.play.knows):
                self.assertEqual(known_after(placement, history(store), place), tuple(sorted(known)))


class EnoughTests(unittest.TestCase):
    def test_histories_of_stores_with_enough_plans(self):
        draw, reads = Numbers(109), 0
        for placement in reading_placements():
            for plan in plans_of(placement, draw):
                if is_enough(placement, plan):
                    store, _ = drawn_store(placement, plan, draw, 30)
                    self.assertEqual(judge_history(placement, history(store)), ("causal",))
                    reads += sum(row[0] == "read" for row in history(store))
        self.assertGreater(reads, 500)

    def test_poor_plans_can_read_something_old(self):
        draw, found = Numbers(110), 0
        for placement in reading_placements():
            for plan in plans_of(placement, draw):
                if not is_enough(placement, plan):
                    for _ in range(3):
                        store, _ = drawn_store(placement, plan, draw, 30)
                        found += judge_history(placement, history(store)) != ("causal",)
        self.assertGreater(found, 0)
        store = replayed(JOINED, BLIND, BAD)
        self.assertEqual(judge_history(JOINED, history(store)), ("old", 6))


if __name__ == "__main__":
    unittest.main()
