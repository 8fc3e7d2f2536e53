"""[8.1] Stand-ins, [8.2] Why, [8.3] Price, [8.4] Least stand-ins and [8.5] Everywhere."""

import unittest

from causeloops.needs import least_plan
from causeloops.plans import is_right
from causeloops.ranks import numbers
from causeloops.standins import (all_standins, are_standins, best_price, best_standins, judge_standins, price,
                                 standins_hold, widened)
from tests import oracle, oracle_growth, oracle_runs
from tests.draws import small_placements
from tests.samples import (ALONE, EMPTY, FULL, JOINED, LINE, NAMED, RING, STAR, THREE, Numbers, drawn_placements,
                           many_placements, strange_values, variants)

SMALL = ((("b",), ("b", "d", "e"), ("b", "c", "e")), ())
PARTS = (None, True, 0, -1, 9, "a", "e", "zz", (), [], (0, "a"), [0, "e"], (0, "e"), ((0, "e"),), ("e", 0))


def some_standins(placement, numbers_drawn):
    """Stand-ins of many lengths: none, one, two, some that are drawn, all."""
    pairs = oracle_growth.pairs(placement)
    found = [(), pairs, pairs[:1], pairs[-1:], pairs[:2], pairs[1:]]
    found += [tuple(pair for pair in pairs if numbers_drawn.below(10) < chances) for chances in (3, 6)]
    return sorted(set(found))


def best_placements():
    """Placements within the limits of best prices, with the greatest most for them."""
    found = [(SMALL, 2), (LINE, 2), (JOINED, 2), (THREE, 2), (FULL, 2), (EMPTY, 2), (ALONE[:1] + ((),), 2), (STAR, 1),
             (RING, 1), (((("a",), ("b",), ("c",)), ((0, 1, 2),)), 2), (((), ()), 0), ((((), ()), ()), 1)]
    found += [(placement, 2) for placement in drawn_placements(6, 61, 3, 4, 0) + drawn_placements(6, 62, 3, 4, 1)]
    found += [(placement, 1) for placement in drawn_placements(6, 63, 4, 5, 0) + drawn_placements(5, 64, 4, 5, 1)]
    return found


class StandinTests(unittest.TestCase):
    def check(self, placement, thing, answer):
        self.assertIs(are_standins(placement, thing), answer, thing)
        self.assertIs(are_standins(placement=placement, thing=thing), answer, thing)

    def test_pairs(self):
        self.assertEqual(all_standins(SMALL), ((0, "c"), (0, "d"), (0, "e"), (1, "c"), (2, "d")))
        self.assertEqual(all_standins(placement=LINE), ((0, "b"), (2, "a")))
        self.assertEqual((all_standins(FULL), all_standins(EMPTY)), ((), ()))
        for placement in many_placements():
            self.assertEqual(all_standins(placement), oracle_growth.pairs(placement))
            self.check(placement, all_standins(placement), True)
            self.check(placement, (), True)

    def test_what_are_none(self):
        for thing in (((0, "b"),), ((0, "a"),), ((3, "b"),), ((-1, "b"),), ((False, "c"),), ((0, "c", 0),), ((0,),),
                      ([0, "c"],), [(0, "c")], (0, "c"), ((0, ("c",)),), (("c", 0),), ((0, None),), ((0, "c"), 1), None):
            self.check(SMALL, thing, False)
        self.check(SMALL, ((0, "c"), (0, "e")), True)
        for thing in (((0, "e"), (0, "c")), ((0, "c"), (0, "c")), ((1, "c"), (0, "d"))):
            self.check(SMALL, thing, False)

    def test_a_client_is_no_stand_in(self):
        self.check(JOINED, ((0, "b"),), True)
        self.check(JOINED, ((3, "b"),), False)

    def test_variants(self):
        found = {True: 0, False: 0}
        for good in (((0, "c"), (1, "c")), all_standins(SMALL), ((0, "e"),)):
            for thing in variants(good, PARTS) + strange_values():
                answer = oracle_growth.are_standins(SMALL, thing)
                self.check(SMALL, thing, answer)
                found[answer] += 1
        self.assertGreater(min(found.values()), 8)

    def test_widened(self):
        self.assertEqual(widened(SMALL, ((0, "e"),)), ((("b", "e"), ("b", "d", "e"), ("b", "c", "e")), ()))
        self.assertEqual(widened(placement=JOINED, standins=((0, "b"), (2, "a"))), ((("a", "b"),) * 3, ((0, 2),)))
        draw = Numbers(65)
        for placement in small_placements():
            self.assertEqual(widened(placement, ()), placement)
            for some in some_standins(placement, draw):
                self.check(placement, some, True)
                self.assertEqual(widened(placement, some), oracle_growth.widened(placement, some))

    def test_widened_twice(self):
        wide = widened(SMALL, ((0, "e"),))
        self.check(wide, ((0, "e"),), False)
        self.assertEqual(widened(wide, ((0, "c"),)), widened(SMALL, ((0, "c"), (0, "e"))))


class PriceTests(unittest.TestCase):
    def test_named(self):
        self.assertEqual((price(SMALL, ()), price(SMALL, ((0, "e"),))), ((15, 3), (9, 4)))
        self.assertEqual(price(placement=LINE, standins=()), (8, 2))
        self.assertEqual(price(FULL, ()), (9, 4))
        self.assertEqual(price(EMPTY, ()), (0, 0))
        self.assertEqual(price(ALONE, ()), (0, 0))
        self.assertEqual(price((((), ()), ()), ()), (0, 0))

    def test_as_in_another_reading(self):
        draw = Numbers(66)
        for placement in small_placements():
            for some in some_standins(placement, draw):
                self.assertEqual(price(placement, some), oracle_growth.price(placement, some))

    def test_groups_of_the_needed_edges(self):
        for placement in many_placements()[::4]:
            counters, messages = price(placement, ())
            self.assertEqual(counters, sum(numbers(placement, least_plan(placement))))
            self.assertEqual(messages, sum(len(row) for row in placement[0]) - len(set().union(*placement[0])))


class WhyTests(unittest.TestCase):
    def test_the_needed_edges_of_the_widened_placement_are_right(self):
        draw = Numbers(67)
        for placement in small_placements()[::2]:
            for some in some_standins(placement, draw):
                wide = widened(placement, some)
                self.assertIs(is_right(wide, least_plan(wide)), True)

    def test_runs_in_which_only_keepers_write(self):
        draw, events = Numbers(68), 0
        for placement in small_placements()[::3]:
            for some in some_standins(placement, draw):
                wide = widened(placement, some)
                state = oracle_runs.Play(wide, least_plan(wide))
                for _ in range(14):
                    choice = [event for event in state.events() if event[0] != "write" or event[1:] not in some]
                    if choice:
                        state.do(choice[draw.below(len(choice))])
                self.assertEqual(state.certificates(), [("right",)])
                events += len(state.early)
        self.assertGreater(events, 500)

    def test_fewer_counters_and_more_messages(self):
        saved = [some for some in [((pair),) for pair in all_standins(SMALL)] if price(SMALL, some)[0] < 15]
        self.assertIn(((0, "e"),), saved)
        self.assertTrue(all(price(SMALL, some)[1] == 4 for some in saved))


class BestTests(unittest.TestCase):
    def test_best_prices(self):
        for placement, greatest in best_placements():
            for most in range(greatest + 1):
                least = oracle_growth.best(placement, most)
                self.assertEqual(best_price(placement, most), least)
                self.assertEqual(best_price(placement=placement, most=most), least)
                some = best_standins(placement, most)
                self.assertEqual(best_standins(placement=placement, most=most), some)
                self.assertTrue(oracle_growth.are_standins(placement, some) and len(some) <= most)
                self.assertEqual(oracle_growth.price(placement, some), least)

    def test_none_at_all(self):
        for placement, _ in best_placements():
            self.assertEqual(best_standins(placement, 0), ())
            self.assertEqual(best_price(placement, 0), price(placement, ()))
            self.assertEqual(judge_standins(placement, (), 0), ("best",))

    def test_more_than_there_are(self):
        for placement in (LINE, FULL, EMPTY, (((), ()), ())):
            for most in (3, 50, 10 ** 39):
                self.assertEqual(best_price(placement, most), oracle_growth.best(placement, 2))

    def test_prices_are_compared_as_tuples(self):
        self.assertEqual(best_price(SMALL, 1), (9, 4))
        self.assertEqual(best_standins(SMALL, 1), ((0, "e"),))
        self.assertEqual(judge_standins(SMALL, (), 1), ("less", ((0, "e"),)))
        self.assertEqual(judge_standins(SMALL, ((0, "e"),), 1), ("best",))
        self.assertEqual(best_standins(FULL, 2), ())
        self.assertLess(price(SMALL, ((0, "e"),)), price(SMALL, ()))

    def test_equal_counters_and_more_messages_are_not_best(self):
        apart = ((("a",), ("b",), ()), ())
        self.assertEqual(judge_standins(apart, ((2, "a"),), 1), ("less", ()))
        self.assertIs(standins_hold(apart, ((2, "a"),), 1, ("best",)), False)

    def check(self, placement, standins, most, thing, answer):
        self.assertIs(standins_hold(placement, standins, most, thing), answer, thing)
        self.assertIs(standins_hold(placement=placement, standins=standins, most=most, thing=thing), answer, thing)

    def test_certificates(self):
        draw, kinds = Numbers(69), {"best": 0, "less": 0, None: 0}
        for placement, greatest in best_placements():
            for some in some_standins(placement, draw):
                for most in range(greatest + 1):
                    good = oracle_growth.certificates(placement, some, most)
                    found = judge_standins(placement, some, most)
                    self.assertEqual(judge_standins(placement=placement, standins=some, most=most), found)
                    kinds[found and found[0]] += 1
                    if good:
                        self.assertIn(found, good)
                    else:
                        self.assertIsNone(found)
                    things = good + [("best",), ("less", ()), ("less", some), ("less", oracle_growth.pairs(placement))]
                    for thing in things:
                        self.check(placement, some, most, thing, thing in good)
        self.assertGreater(min(kinds.values()), 20)

    def test_more_pairs_than_most(self):
        self.assertIsNone(judge_standins(SMALL, ((0, "e"),), 0))
        for thing in (("best",), ("less", ()), ("less", ((0, "e"),)), None, ("none",)):
            self.check(SMALL, ((0, "e"),), 0, thing, False)
        wide = ((0, "c"), (1, "c"))
        self.check(SMALL, wide, 1, ("less", ((0, "e"),)), True)
        self.check(SMALL, wide, 0, ("less", ((0, "e"),)), False)
        self.check(SMALL, wide, 1, ("less", ((0, "d"), (0, "e"))), False)
        self.check(SMALL, wide, 1, ("best",), False)

    def test_what_is_no_certificate(self):
        self.check(SMALL, (), 1, ("less", ((0, "e"),)), True)
        for thing in (("less", [(0, "e")]), ("less", ((0, "a"),)), ("less", ((0, "e"), (0, "c"))), ("less", (0, "e")),
                      ("less",), ("less", ((0, "e"),), 1), ["less", ((0, "e"),)], ("Less", ((0, "e"),)), ("best",), None,
                      ("less", None), ("less", ((False, "e"),)), "less", ("less", ())):
            self.check(SMALL, (), 1, thing, False)
        self.check(SMALL, ((0, "e"),), 1, ("best",), True)
        for thing in (["best"], ("best", ()), ("best", None), "best", (("best",),), ("less", ((0, "e"),)), True):
            self.check(SMALL, ((0, "e"),), 1, thing, False)

    def test_strange_values(self):
        for thing in strange_values() + variants(("less", ((0, "e"),)), PARTS):
            answer = thing in oracle_growth.certificates(SMALL, (), 1) and repr(thing).count("False") == 0
            self.check(SMALL, (), 1, thing, answer)


class EverywhereTests(unittest.TestCase):
    def test_one_number_for_each_site(self):
        for placement in many_placements():
            wide = widened(placement, all_standins(placement))
            kept = tuple(sorted(set().union(*placement[0])))
            self.assertEqual(wide[0], (kept,) * oracle.sites_of(placement))
            if not placement[1] and kept:
                count = oracle.sites_of(placement)
                edges = oracle.edges_of(wide)
                self.assertEqual(len(edges), count * (count - 1))
                self.assertEqual(least_plan(wide), (edges,) * count)
                self.assertEqual(numbers(wide, least_plan(wide)), (count if count > 1 else 0,) * count)
                self.assertEqual(price(placement, all_standins(placement)),
                                 (count * count if count > 1 else 0, len(kept) * (count - 1)))

    def test_without_registers(self):
        for placement in ((((), ()), ()), EMPTY, (((), (), ()), ((0, 2),))):
            self.assertEqual(all_standins(placement), ())
            self.assertEqual(price(placement, ()), (0, 0))


class NamedTests(unittest.TestCase):
    def test_all_prices_of_named_placements(self):
        for placement in NAMED:
            for some in oracle_growth.all_of(placement, 1):
                self.assertEqual(price(placement, some), oracle_growth.price(placement, some))


if __name__ == "__main__":
    unittest.main()
