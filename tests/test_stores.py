"""[11.1] Stores, [11.2] Deeds and [11.3] What a store keeps."""

import unittest

from causeloops.errors import NotReady
from causeloops.needs import full_plan, is_enough, least_plan
from causeloops.plans import judge_plan
from causeloops.runs import judge_run
from causeloops.stores import Store
from causeloops.views import history, run_of
from tests import oracle, oracle_runs
from tests.deeds import do_at_shop, do_at_store, drawn_deed, drawn_store, visits
from tests.draws import plans_of, small_placements
from tests.oracle_stores import Shop, causes, had, knows, writes_of
from tests.samples import ALONE, EMPTY, JOINED, LINE, THREE, Numbers, strange_values

PLAN = least_plan(JOINED)
BLIND = oracle_runs.own(JOINED)


def shop_with_two():
    shop = Store(JOINED, PLAN)
    shop.write(1, "b", 5)
    shop.write(1, "a", 6)
    return shop


class DeedTests(unittest.TestCase):
    def test_by_position(self):
        shop = Store(JOINED, PLAN)
        self.assertEqual([shop.write(1, "b", 5), shop.write(1, "a", 6), shop.waiting()], [0, 1, ((0, 1), (2, 0))])
        self.assertIs(shop.is_ready(0, 1), True)
        self.assertIsNone(shop.apply(0, 1))
        self.assertEqual(shop.read(3, 0, "a"), 6)
        self.assertIs(shop.can_visit(3, 2), False)
        self.assertEqual(shop.settle(), 1)
        self.assertIsNone(shop.visit(3, 2))
        self.assertEqual([shop.read(3, 2, "b"), shop.counts(3), shop.value(0, "a")], [5, (0, 1, 1, 0), 6])
        self.assertEqual(shop.put(3, 2, "b", -7), 2)
        self.assertEqual((shop.placement(), shop.plan()), (JOINED, PLAN))

    def test_by_name(self):
        shop = Store(placement=JOINED, plan=PLAN)
        self.assertEqual(shop.write(site=1, register="b", value=5), 0)
        self.assertEqual(shop.write(value=6, register="a", site=1), 1)
        self.assertIs(shop.is_ready(number=1, site=0), True)
        self.assertIsNone(shop.apply(site=0, number=1))
        self.assertEqual(shop.read(client=3, site=0, register="a"), 6)
        self.assertIs(shop.can_visit(site=2, client=3), False)
        self.assertEqual(shop.settle(), 1)
        self.assertIsNone(shop.visit(client=3, site=2))
        self.assertEqual(shop.put(client=3, site=2, register="b", value=0), 2)
        self.assertEqual([shop.counts(place=3), shop.value(site=2, register="b")], [(0, 1, 1, 1), 0])

    def test_nothing_was_done(self):
        for placement in (JOINED, LINE, THREE, ALONE, EMPTY):
            for plan in (least_plan(placement), full_plan(placement), oracle_runs.own(placement)):
                shop = Store(placement, plan)
                self.assertEqual((shop.waiting(), shop.settle(), history(shop)), ((), 0, ()))
                for place, row in enumerate(plan):
                    self.assertEqual(shop.counts(place), (0,) * len(row))
                for site, row in enumerate(placement[0]):
                    self.assertEqual([shop.value(site, x) for x in row], [None] * len(row))

    def test_messages_overtake_one_another(self):
        shop = Store(JOINED, PLAN)
        for value in (1, 2, 3):
            shop.write(1, "b", value)
        self.assertIs(shop.is_ready(2, 0), True)
        for number in (1, 2):
            self.assertIs(shop.is_ready(2, number), False)
            self.assertIs(do_at_store(shop, "apply", (2, number)), NotReady)
        shop.apply(2, 0)
        self.assertEqual((shop.value(2, "b"), shop.value(1, "b"), shop.waiting()), (1, 3, ((2, 1), (2, 2))))

    def test_the_value_is_the_one_that_was_applied_last(self):
        shop = Store(LINE, least_plan(LINE))
        shop.write(0, "a", 1)
        shop.write(1, "a", 2)
        shop.apply(1, 0)
        shop.apply(0, 1)
        self.assertEqual((shop.value(0, "a"), shop.value(1, "a")), (2, 1))

    def test_values_0_and_below_and_equal_ones(self):
        shop = Store(JOINED, PLAN)
        for value in (0, -1, 0, 0, 10 ** 9, -10 ** 9):
            shop.write(1, "b", value)
            shop.settle()
            self.assertEqual((shop.value(1, "b"), shop.value(2, "b"), shop.read(3, 2, "b")), (value,) * 3)
        self.assertIs(type(shop.value(2, "b")), int)

    def test_reading_none(self):
        shop = Store(JOINED, PLAN)
        self.assertIsNone(shop.read(3, 0, "a"))
        self.assertEqual(history(shop), (("visit", 3, 0), ("read", 3, 0, "a", None)))

    def test_writing_as_a_client(self):
        shop = Store(JOINED, PLAN)
        self.assertEqual(shop.put(3, 0, "a", 4), 0)
        self.assertEqual(history(shop), (("visit", 3, 0), ("write", 0, "a", 4), ("visit", 3, 0)))
        self.assertEqual(shop.counts(3), (1, 0, 0, 0))
        self.assertEqual((shop.put(3, 2, "b", 5), shop.waiting()), (1, ((1, 0), (1, 1))))
        self.assertIs(shop.is_ready(1, 1), False)

    def test_settling(self):
        shop = shop_with_two()
        shop.write(0, "a", 7)
        self.assertEqual(shop.settle(), 3)
        self.assertEqual(history(shop)[3:], (("apply", 0, 1), ("apply", 1, 2), ("apply", 2, 0)))
        self.assertEqual((shop.settle(), shop.waiting()), (0, ()))

    def test_refused_deeds_change_nothing(self):
        shop = shop_with_two()
        shop.apply(0, 1)
        shop.visit(3, 0)
        before, rows = shop.copy(), history(shop)
        shop.write(1, "b", 8)
        again = shop.copy()
        for name, args in (("visit", (3, 2)), ("read", (3, 2, "b")), ("put", (3, 2, "b", 1)), ("apply", (2, 2))):
            self.assertIs(do_at_store(shop, name, args), NotReady)
            self.assertEqual(shop, again)
            self.assertEqual(history(shop), history(again))
        self.assertEqual(history(shop)[:-1], rows)
        self.assertNotEqual(shop, before)

    def test_looking_changes_nothing(self):
        shop = shop_with_two()
        rows = history(shop)
        for _ in range(2):
            answers = [shop.waiting(), shop.is_ready(0, 1), shop.value(1, "a"), shop.can_visit(3, 0), shop.counts(1),
                       shop.placement(), shop.plan(), shop.copy() == shop, shop == shop_with_two()]
            self.assertEqual(answers, [((0, 1), (2, 0)), True, 6, True, (0, 1, 1, 0), JOINED, PLAN, True, True])
        self.assertEqual(history(shop), rows)


class DrawnDeedTests(unittest.TestCase):
    def compare(self, store, shop):
        placement = shop.placement
        self.assertEqual(history(store), tuple(shop.rows))
        self.assertEqual(run_of(store), tuple(row[:3] for row in shop.rows if row[0] != "read"))
        self.assertEqual(store.waiting(), shop.play.missing())
        self.assertEqual(tuple(store.counts(place) for place in range(len(shop.plan))), shop.all_counts())
        for site, row in enumerate(placement[0]):
            self.assertEqual([store.value(site, x) for x in row], shop.values[site])
        for site, number in store.waiting():
            self.assertIs(store.is_ready(site, number), shop.play.is_possible(("apply", site, number)))
        for client, site in visits(placement):
            self.assertIs(store.can_visit(client, site), shop.play.is_possible(("visit", client, site)))

    def test_as_in_another_reading(self):
        draw, answers = Numbers(91), {}
        for placement in small_placements():
            for plan in plans_of(placement, draw)[::2]:
                store, shop = Store(placement, plan), Shop(placement, plan)
                for _ in range(20):
                    name, args = drawn_deed(shop, draw, 24)
                    expected = do_at_shop(shop, name, args)
                    answer = do_at_store(store, name, args)
                    self.assertEqual(answer, expected)
                    key = (name, answer is NotReady)
                    answers[key] = answers.get(key, 0) + 1
                self.compare(store, shop)
        for key in (("apply", True), ("visit", True), ("read", True), ("put", True), ("settle", False), ("put", False)):
            self.assertGreater(answers[key], 4, key)

    def test_behind_settling_nothing_waits(self):
        draw = Numbers(92)
        for placement in small_placements():
            for plan in plans_of(placement, draw)[::3]:
                store, shop = drawn_store(placement, plan, draw, 16)
                waiting = store.waiting()
                self.assertEqual(store.settle(), len(waiting))
                self.assertEqual(store.waiting(), ())
                shop.settle()
                self.compare(store, shop)

    def test_enough_plans_read_nothing_old(self):
        """[11.3], by the second reading's causes: what the client knows right after its visit, and what the site has."""
        draw, checked = Numbers(93), 0
        for placement in small_placements():
            if not visits(placement):
                continue
            for plan in plans_of(placement, draw):
                if not is_enough(placement, plan):
                    continue
                store, _ = drawn_store(placement, plan, draw, 22)
                rows = history(store)
                for at, row in enumerate(rows):
                    if row[0] == "visit":
                        self.check_visit(placement, rows, at)
                    if row[0] == "read":
                        self.check_read(rows, at)
                        checked += 1
        self.assertGreater(checked, 300)

    def check_visit(self, placement, rows, at):
        _, client, site = rows[at]
        writes = writes_of(rows)
        mine = {number for number in knows(rows, at + 1, client) if rows[writes[number]][2] in placement[0][site]}
        self.assertLessEqual(mine, had(rows, at + 1, site))

    def check_read(self, rows, at):
        _, client, site, register, value = rows[at]
        writes = writes_of(rows)
        mine = {number for number in knows(rows, at, client) if rows[writes[number]][2] == register}
        fresh = [number for number in had(rows, at, site) if rows[writes[number]][2:] == (register, value)
                 and not any(number in causes(rows, other) for other in mine)]
        self.assertTrue(fresh or (value is None and not mine))

    def test_poor_plans_have_deeds_that_end_early(self):
        seen = 0
        for placement in small_placements():
            for plan in plans_of(placement, Numbers(94)):
                if is_enough(placement, plan):
                    continue
                _, run = judge_plan(placement, plan)
                store = Store(placement, plan)
                for word, one, other in run:
                    do_at_store(store, word, (one, other, 1) if word == "write" else (one, other))
                self.assertEqual(run_of(store), run)
                self.assertEqual(judge_run(placement, plan, run_of(store))[:2], ("early", len(run) - 1))
                seen += 1
        self.assertGreater(seen, 50)

    def test_a_poor_plan_serves_a_client_something_old(self):
        store = Store(JOINED, BLIND)
        for name, args in (("write", (1, "b", 5)), ("write", (1, "a", 6)), ("apply", (0, 1)), ("visit", (3, 0))):
            do_at_store(store, name, args)
        self.assertIsNone(store.read(3, 2, "b"))


class EqualTests(unittest.TestCase):
    def check(self, one, other, answer):
        self.assertIs(one == other, answer)
        self.assertIs(other == one, answer)
        self.assertIs(one != other, not answer)
        self.assertIs(other != one, not answer)

    def test_the_same_deeds(self):
        self.check(shop_with_two(), shop_with_two(), True)
        self.check(Store(JOINED, PLAN), Store(JOINED, PLAN), True)
        shop = shop_with_two()
        self.check(shop, shop, True)

    def test_they_differ_in_one_thing_alone(self):
        self.check(Store(LINE, least_plan(LINE)), Store(LINE, full_plan(LINE)), False)
        one, two = [Store(JOINED, BLIND[:3] + ((edge,),)) for edge in ((0, 1), (1, 0))]
        self.assertEqual([one.counts(place) for place in range(4)], [two.counts(place) for place in range(4)])
        self.check(one, two, False)
        other = ((("aa",), ("aa", "b"), ("b",)), ())
        self.check(Store(LINE, least_plan(LINE)), Store(other, least_plan(other)), False)
        self.check(Store(ALONE, least_plan(ALONE)), Store((ALONE[0], ((0, 1), (0, 2))), ((),) * 5), False)
        private = ((("a", "z"), ("a",)), ())
        quiet = least_plan(private)
        one, two = Store(private, quiet), Store(private, quiet)
        one.write(0, "z", 1)
        self.check(one, two, False)
        two.write(0, "z", 2)
        self.check(one, two, False)
        two = Store(private, quiet)
        two.write(0, "z", 1)
        self.check(one, two, True)

    def test_counts_alone(self):
        one, two = shop_with_two(), shop_with_two()
        one.visit(3, 0)
        self.check(one, two, True)
        one = shop_with_two()
        one.apply(0, 1)
        two.apply(0, 1)
        one.visit(3, 0)
        self.check(one, two, False)

    def test_values_alone(self):
        stores = []
        for order in ((0, 1), (1, 0)):
            shop = Store(JOINED, PLAN)
            shop.write(0, "a", 1)
            shop.write(1, "a", 2)
            for site in order:
                shop.apply(site, 1 - site)
            stores.append(shop)
        self.check(stores[0], stores[1], True)
        stores = []
        full = ((("a",), ("a",), ("a",)), ())
        for first in (0, 1):
            shop = Store(full, least_plan(full))
            shop.write(0, "a", 1)
            shop.write(1, "a", 2)
            shop.apply(2, first)
            shop.apply(2, 1 - first)
            stores.append(shop)
        self.assertEqual([shop.value(2, "a") for shop in stores], [2, 1])
        self.assertEqual(stores[0].counts(2), stores[1].counts(2))
        self.check(stores[0], stores[1], False)

    def test_the_value_of_an_update_alone(self):
        stores = []
        for value in (5, 6):
            shop = Store(JOINED, PLAN)
            shop.write(1, "b", value)
            shop.write(1, "b", 7)
            stores.append(shop)
        self.assertEqual(stores[0].value(1, "b"), stores[1].value(1, "b"))
        self.check(stores[0], stores[1], False)

    def test_histories_may_differ(self):
        one, two = shop_with_two(), shop_with_two()
        one.read(3, 0, "a")
        one.visit(3, 2)
        self.check(one, two, True)
        self.assertNotEqual(history(one), history(two))

    def test_other_values(self):
        shop = shop_with_two()
        for thing in strange_values() + [history(shop), JOINED, (JOINED, PLAN), Shop(JOINED, PLAN), object()]:
            if not isinstance(thing, Store):
                self.check(shop, thing, False)

    def test_drawn_stores(self):
        draw, found = Numbers(95), {True: 0, False: 0}
        for placement in small_placements()[::2]:
            plan = least_plan(placement)
            pairs = [drawn_store(placement, plan, draw, 3, rows=12) for _ in range(14)]
            states = [(shop.all_counts(), [(update[:2], worth) for update, worth in zip(shop.play.updates, shop.worths)],
                       [oracle_runs.in_order(plan, update[0], update[2]) for update in shop.play.updates],
                       shop.values, shop.play.missing()) for _, shop in pairs]
            for one, first in zip(pairs, states):
                for two, second in zip(pairs, states):
                    self.check(one[0], two[0], first == second)
                    found[first == second] += one is not two
        self.assertGreater(min(found.values()), 100)


class CopyTests(unittest.TestCase):
    def test_a_copy_goes_on_by_itself(self):
        shop = shop_with_two()
        twin = shop.copy()
        self.assertIsInstance(twin, Store)
        self.assertEqual((twin, history(twin)), (shop, history(shop)))
        twin.apply(0, 1)
        twin.write(0, "a", 9)
        self.assertEqual((shop, history(shop)), (shop_with_two(), history(shop_with_two())))
        self.assertNotEqual(shop, twin)
        shop.settle()
        self.assertEqual(twin.waiting(), ((1, 2), (2, 0)))

    def test_drawn_copies(self):
        draw = Numbers(96)
        for placement in small_placements()[::2]:
            for plan in plans_of(placement, draw)[::4]:
                store, shop = drawn_store(placement, plan, draw, 10)
                twin, rows = store.copy(), history(store)
                self.assertEqual((twin, history(twin), run_of(twin)), (store, rows, run_of(store)))
                for _ in range(4):
                    name, args = drawn_deed(shop, draw, 24)
                    expected = do_at_shop(shop, name, args)
                    self.assertEqual(do_at_store(twin, name, args), expected)
                self.assertEqual(history(twin), tuple(shop.rows))
                self.assertEqual(history(store), rows)
                again = store.copy()
                self.assertEqual((again, history(again)), (store, rows))

    def test_a_copy_of_a_copy(self):
        shop = shop_with_two()
        shop.apply(0, 1)
        shop.read(3, 0, "a")
        twin = shop.copy().copy()
        self.assertEqual((twin, history(twin)), (shop, history(shop)))


class PlayTests(unittest.TestCase):
    def test_all_places_end_with_what_they_keep(self):
        draw = Numbers(97)
        for placement in small_placements()[::4]:
            store, shop = drawn_store(placement, least_plan(placement), draw, 20)
            store.settle()
            for number, (_, register, _) in enumerate(shop.play.updates):
                for site in range(oracle.sites_of(placement)):
                    if register in placement[0][site]:
                        self.assertIn(number, had(history(store), len(history(store)), site))


if __name__ == "__main__":
    unittest.main()
