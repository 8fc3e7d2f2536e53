"""[0.2] Conventions for Parts 10 to 13: wrong values, their errors in order, and how calls are made."""

import unittest

from causeloops import benches, shapes, stores, views
from causeloops.benches import Bench
from causeloops.errors import (BadEvent, BadHistory, BadLine, BadNumber, BadPlace, BadPlacement, BadPlaces, BadPlan,
                               BadRegister, BadRows, BadRun, BadStore, BadUpdate, BadValue, NotEarly, NotReady)
from causeloops.needs import full_plan, least_plan
from causeloops.stores import Store
from causeloops.views import history
from tests import oracle_runs, oracle_stores
from tests.interface import CLASSES, INTERFACE
from tests.samples import JOINED, LINE, THREE, own_objects, snapshot, strange_values, told, variants
from tests.wrong import (PARTS, check_errors, check_ways_of_calling, wrong_clients, wrong_placements, wrong_places,
                         wrong_plans, wrong_runs, wrong_sites)

BLIND = oracle_runs.own(JOINED)
RUN = (("write", 1, "b"), ("write", 1, "a"), ("apply", 0, 1), ("visit", 3, 0), ("visit", 3, 2))
ROWS = (("write", 1, "b", 5), ("write", 1, "a", 6), ("apply", 0, 1), ("visit", 3, 0), ("read", 3, 0, "a", 6))
MAY_BE_ANY = {"ring_holds", "is_history", "is_free", "history_holds"}
ROW_PARTS = PARTS + (3, 5, 6, "write", "apply", "visit", "read", ROWS[0], ROWS[3])


def shop_with_two():
    shop = Store(JOINED, least_plan(JOINED))
    shop.write(1, "b", 5)
    shop.write(1, "a", 6)
    return shop


def values():
    return {
        "placement": JOINED, "plan": BLIND, "run": RUN, "one": 0, "other": 2, "places": (0, 1, 3), "store": shop_with_two(),
        "rows": ROWS, "place": 3, "text": "", "at": 1, "thing": ROWS,
    }


def calls():
    """Each function of the interface, with values that are right for it."""
    found = []
    for module in (shapes, views, benches):
        for name, parameters in INTERFACE[module].items():
            found.append((getattr(module, name), {parameter: values()[parameter] for parameter in parameters}))
    return found


def wrong_place_tuples():
    things = strange_values() + variants((0, 1, 3), PARTS + (2, 4)) + [(0, 3), (3,), (0, 1, 4), (1, 0), [0, 1], (0, 1, 1)]

    def is_right(thing):
        return (type(thing) is tuple and all(type(place) is int and 0 <= place < 4 for place in thing)
                and list(thing) == sorted(set(thing)) and sum(place < 3 for place in thing) > 1)
    return [thing for thing in things if not is_right(thing)]


def wrong_rows():
    return [thing for thing in strange_values() + variants(ROWS, ROW_PARTS)
            if not oracle_stores.is_free(JOINED, thing)]


def wrong_of(name):
    """The error of a parameter, and the values that are wrong for it."""
    return {
        "placement": lambda: (BadPlacement, wrong_placements()),
        "plan": lambda: (BadPlan, wrong_plans(JOINED, BLIND)),
        "run": lambda: (BadRun, wrong_runs(JOINED, BLIND, RUN)),
        "one": lambda: (BadPlace, wrong_places(JOINED)),
        "other": lambda: (BadPlace, wrong_places(JOINED) + [0]),
        "place": lambda: (BadPlace, wrong_places(JOINED)),
        "places": lambda: (BadPlaces, wrong_place_tuples()),
        "store": lambda: (BadStore, [thing for thing in strange_values() + [Store] if not isinstance(thing, Store)]),
        "rows": lambda: (BadRows, wrong_rows()),
        "at": lambda: (BadNumber, [thing for thing in strange_values() + [5, 6] if type(thing) is not int
                                   or not 0 <= thing < 5]),
    }[name]()


def wrong_parts(good, shift):
    """The wrong values of all parameters that raise an error with `thing`; not text, not thing."""
    return [(name,) + wrong_of(name) for name in good if name not in ("text", "thing")][shift:]


class InterfaceTests(unittest.TestCase):
    def test_by_position_and_by_name(self):
        check_ways_of_calling(self, calls())

    def test_errors_by_their_order(self):
        for call, good in calls():
            check_errors(self, call, good, wrong_parts(good, 0))

    def test_errors_come_before_any_thing(self):
        for call, good in calls():
            for last in ("thing", "text"):
                if last in good and len(good) > 1:
                    for thing in (None, [], ("causal",), own_objects()[0], "x\n"):
                        wrong = [(name, error, some[1::31]) for name, error, some in wrong_parts(good, 0)]
                        check_errors(self, call, {**good, last: thing}, wrong)

    def test_any_thing_gives_true_or_false(self):
        for call, good in calls():
            if "thing" in good and call.__name__ != "replayed":
                self.assertIn(call.__name__, MAY_BE_ANY)
                things = strange_values() + variants((0, 1, 2, 3), PARTS)[::3] + variants(("old", 4), PARTS)
                for thing in things + variants(ROWS, ROW_PARTS)[::7] + [("causal",), (0, 3, 2, 1)]:
                    named = {**good, "thing": thing}
                    self.assertIs(type(told(call, **named)), bool)
                    self.assertEqual(told(call, *named.values()), told(call, **named))

    def test_true_and_false(self):
        for call, good in calls():
            if call.__name__ in MAY_BE_ANY | {"is_short"}:
                self.assertIs(type(told(call, **good)), bool, call.__name__)

    def test_texts(self):
        for thing in strange_values():
            if type(thing) is not str:
                for call, good in ((benches.read_placement, {}), (benches.read_run, {"placement": JOINED, "plan": BLIND})):
                    self.assertEqual(told(call, **good, text=thing), (BadLine, {"at": 0}))
                    self.assertEqual(told(call, *good.values(), thing), (BadLine, {"at": 0}))
        self.assertEqual(told(benches.read_run, JOINED, None, None), (BadPlan, {"thing": None}))
        self.assertEqual(told(benches.read_run, None, None, None), (BadPlacement, {"thing": None}))

    def test_histories(self):
        for thing in strange_values():
            if type(thing) is not tuple:
                self.assertEqual(told(views.replayed, JOINED, BLIND, thing), (BadHistory, {"at": None}))
                self.assertEqual(told(views.replayed, JOINED, None, thing), (BadPlan, {"thing": None}))
            elif thing:
                self.assertEqual(told(views.replayed, JOINED, BLIND, thing), (BadHistory, {"at": 0}))
                self.assertEqual(told(views.replayed, None, BLIND, thing), (BadPlacement, {"thing": None}))


class RingTests(unittest.TestCase):
    def test_the_same_place_twice(self):
        for call, more in ((shapes.ring_of, ()), (shapes.ring_holds, (None,))):
            for place in range(4):
                self.assertEqual(told(call, JOINED, place, place, *more), (BadPlace, {"thing": place}))
            self.assertEqual(told(call, JOINED, 4, 4, *more), (BadPlace, {"thing": 4}))
            self.assertEqual(told(call, JOINED, True, True, *more), (BadPlace, {"thing": True}))
            self.assertEqual(told(call, JOINED, 1, True, *more), (BadPlace, {"thing": True}))
            self.assertEqual(told(call, JOINED, -1, 4, *more), (BadPlace, {"thing": -1}))
            self.assertEqual(told(call, None, 0, 0, *more), (BadPlacement, {"thing": None}))


def wrong_for_store(name, client):
    """The wrong values of a parameter of the store's methods, for the site 0 and the client 3."""
    sites = wrong_sites(JOINED) + ([1] if client else [])
    return {
        "client": lambda: (BadPlace, wrong_clients(JOINED)),
        "site": lambda: (BadPlace, sites),
        "register": lambda: (BadRegister, [thing for thing in strange_values() + ["b", "ab", ("a",)]
                                           if not (type(thing) is str and thing == "a")]),
        "value": lambda: (BadValue, [thing for thing in strange_values() + ["1", (1,)] if type(thing) is not int]),
        "number": lambda: (BadUpdate, [thing for thing in strange_values() + [0, 2, -1, "1"]
                                       if not (type(thing) is int and thing == 1)]),
        "place": lambda: (BadPlace, wrong_places(JOINED)),
    }[name]()


class StoreTests(unittest.TestCase):
    GOOD = {"client": 3, "site": 0, "register": "a", "value": 7, "number": 1, "place": 3}

    def test_making_one(self):
        for made in (Store, Bench):
            good = {"placement": JOINED, "plan": BLIND}
            wrong = [(name,) + wrong_of(name) for name in good]
            check_errors(self, made, good, wrong)

    def test_errors_by_their_order(self):
        for name, parameters in CLASSES[Store].items():
            if name.startswith("__") or not parameters:
                continue
            good = {parameter: self.GOOD[parameter] for parameter in parameters}
            shop = shop_with_two()
            before = snapshot(shop)
            wrong = [(parameter,) + wrong_for_store(parameter, "client" in good) for parameter in parameters]
            check_errors(self, getattr(shop, name), good, wrong)
            self.assertEqual(snapshot(shop), before)
            self.assertNotIsInstance(told(getattr(shop, name), **good), tuple if name != "counts" else int)

    def test_not_ready_comes_last(self):
        shop = shop_with_two()
        shop.apply(0, 1)
        shop.visit(3, 0)
        shop.write(1, "b", 8)
        before = snapshot(shop)
        for name, args in (("visit", (3, 2)), ("read", (3, 2, "b")), ("put", (3, 2, "b", 1)), ("apply", (2, 2))):
            self.assertEqual(told(getattr(shop, name), *args), (NotReady, {}))
        self.assertEqual(told(shop.read, 3, 2, "a"), (BadRegister, {"thing": "a"}))
        self.assertEqual(told(shop.put, 3, 2, "a", None), (BadRegister, {"thing": "a"}))
        self.assertEqual(told(shop.put, 3, 2, "b", None), (BadValue, {"thing": None}))
        self.assertEqual(told(shop.put, 3, 2, "b", True), (BadValue, {"thing": True}))
        self.assertEqual(told(shop.put, 3, 1, "b", True), (BadPlace, {"thing": 1}))
        self.assertEqual(told(shop.apply, 2, 1), (BadUpdate, {"thing": 1}))
        self.assertEqual(told(shop.is_ready, 0, 1), (BadUpdate, {"thing": 1}))
        self.assertEqual(told(shop.is_ready, 1, 0), (BadUpdate, {"thing": 0}))
        self.assertIs(shop.is_ready(2, 2), False)
        self.assertEqual(snapshot(shop), before)

    def test_true_and_false(self):
        shop = shop_with_two()
        for answer in (shop.is_ready(0, 1), shop.can_visit(3, 0), shop == shop_with_two(), shop != shop_with_two(),
                       shop == 1, shop != (shop,)):
            self.assertIs(type(answer), bool)

    def test_what_returns_nothing(self):
        shop = shop_with_two()
        self.assertIsNone(shop.apply(0, 1))
        self.assertIsNone(shop.visit(3, 0))
        bench = Bench(JOINED, BLIND)
        self.assertIsNone(bench.do(("write", 0, "a")))
        self.assertIsNone(bench.change(BLIND))

    def test_what_is_returned_is_no_part_of_the_store(self):
        shop = shop_with_two()
        for answer in (shop.waiting(), shop.counts(0), shop.placement(), shop.plan(), history(shop), views.run_of(shop)):
            self.assertIs(type(answer), tuple)


class BenchTests(unittest.TestCase):
    def test_events(self):
        bench = Bench(JOINED, BLIND)
        for event in RUN[:3]:
            bench.do(event)
        bench.undo()
        before = snapshot(bench)
        state = oracle_runs.play(JOINED, BLIND, RUN[:2])
        things = strange_values() + variants(RUN[2], PARTS + (2, 3, "write", "apply", "visit")) + [ROWS[0], list(RUN[2])]
        wrong = [thing for thing in things if not state.is_possible(thing)]
        check_errors(self, bench.do, {"event": RUN[2]}, [("event", BadEvent, wrong)])
        self.assertEqual(snapshot(bench), before)
        self.assertIs(bench.redo(), True)

    def test_plans(self):
        bench = Bench(JOINED, BLIND)
        for event in RUN:
            bench.do(event)
        bench.do(("write", 0, "a"))
        bench.undo()
        before = snapshot(bench)
        check_errors(self, bench.change, {"plan": BLIND}, [("plan", BadPlan, wrong_plans(JOINED, BLIND))])
        for plan in (least_plan(JOINED), full_plan(JOINED)):
            self.assertEqual(told(bench.change, plan), (BadRun, {"thing": RUN}))
        self.assertEqual(told(bench.change, least_plan(LINE)), (BadPlan, {"thing": least_plan(LINE)}))
        self.assertEqual(snapshot(bench), before)
        self.assertIs(bench.redo(), True)

    def test_true_and_false(self):
        bench = Bench(JOINED, BLIND)
        self.assertIs(bench.undo(), False)
        self.assertIs(bench.redo(), False)
        bench.do(RUN[0])
        self.assertIs(bench.undo(), True)
        self.assertIs(bench.redo(), True)


class OrderTests(unittest.TestCase):
    def test_views(self):
        self.assertEqual(told(views.known_after, JOINED, None, 9), (BadRows, {"thing": None}))
        self.assertEqual(told(views.known_after, JOINED, ROWS, 4), (BadPlace, {"thing": 4}))
        self.assertEqual(told(views.known_after, None, None, 9), (BadPlacement, {"thing": None}))
        self.assertEqual(told(views.judge_history, LINE, ROWS), (BadRows, {"thing": ROWS}))
        self.assertEqual(told(views.history, history(shop_with_two())), (BadStore, {"thing": history(shop_with_two())}))

    def test_runs_and_positions(self):
        self.assertEqual(told(benches.without, JOINED, least_plan(JOINED), RUN, 9), (BadRun, {"thing": RUN}))
        self.assertEqual(told(benches.without, JOINED, BLIND, RUN, 5), (BadNumber, {"thing": 5}))
        self.assertEqual(told(benches.shortened, JOINED, BLIND, RUN[:4]), (NotEarly, {}))
        self.assertEqual(told(benches.shortened, JOINED, least_plan(JOINED), RUN), (BadRun, {"thing": RUN}))
        self.assertEqual(told(benches.is_short, JOINED, None, RUN), (BadPlan, {"thing": None}))

    def test_a_placement_of_others(self):
        self.assertEqual(told(shapes.restricted, THREE, (0, 3)), (BadPlaces, {"thing": (0, 3)}))
        self.assertEqual(told(shapes.restricted, THREE, (0,)), (BadPlaces, {"thing": (0,)}))
        self.assertEqual(told(shapes.restricted, JOINED, (2, 3)), (BadPlaces, {"thing": (2, 3)}))
        self.assertEqual(told(shapes.restricted, JOINED, ()), (BadPlaces, {"thing": ()}))


class AnyValueTests(unittest.TestCase):
    """A store and a bench are any value, too: as an argument of all functions, and as what an error keeps."""

    def test_as_each_argument(self):
        store, bench = own_objects()
        for module, listed in INTERFACE.items():
            for name, parameters in listed.items():
                call = getattr(module, name)
                for thing in (store, bench, (store,), [bench]):
                    answer = told(call, thing, *[thing] * (len(parameters) - 1))
                    if parameters[0] == "store" and thing is store:
                        self.assertIs(type(answer), tuple)
                    elif parameters == ("thing",):
                        self.assertIs(answer, False)
                    else:
                        self.assertIs(type(answer), tuple)
                        self.assertTrue(issubclass(answer[0], Exception), name)
                        kept = list(answer[1].values())[0]
                        self.assertTrue(kept is thing or answer == (BadLine, {"at": 0}))


if __name__ == "__main__":
    unittest.main()
