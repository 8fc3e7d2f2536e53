"""[0.2] Conventions for Parts 3 to 6: wrong values, their errors in order, and how calls are made."""

import unittest

from causeloops import counts, needs, plans, runs
from causeloops.errors import (BadCounts, BadEdge, BadLoop, BadPlace, BadPlacement, BadPlan, BadRegister, BadRun,
                               BadUpdate, IsCounted, NotReady, OwnEdge)
from tests import oracle, oracle_runs
from tests.interface import INTERFACE
from tests.samples import ALONE, JOINED, LINE, LoopError, NAMED, THREE, strange_values, told, variants
from tests.wrong import (PARTS, check_errors, check_ways_of_calling, wrong_clients, wrong_counts, wrong_edges,
                         wrong_placements, wrong_places, wrong_plans, wrong_runs, wrong_sites)

PLAN = needs.least_plan(JOINED)
BLIND = oracle_runs.own(JOINED)
RUN = (("write", 1, "b"), ("write", 1, "a"), ("apply", 0, 1), ("visit", 3, 0))
ZERO = (0, 0, 0, 0)
UPDATE = (1, "a", (0, 1, 0, 0))
VALUES = {
    "placement": JOINED, "plan": PLAN, "place": 0, "thing": RUN, "counts": ZERO, "register": "a", "update": UPDATE,
    "client": 3, "site": 0, "mine": ZERO, "its": ZERO, "run": RUN, "m": 1,
}
MAY_BE_ANY = {"is_plan", "are_counts", "is_update", "is_run", "is_event", "run_holds", "plan_holds"}


def calls():
    """Each function of the interface, with values that are right for it."""
    found = [(getattr(module, name), {parameter: VALUES.get(parameter) for parameter in parameters})
             for module in (needs, counts, runs, plans) for name, parameters in INTERFACE[module].items()]
    last = {"placement": JOINED, "plan": BLIND, "place": 0, "edge": (1, 2), "loop": ((3, 2), (1,))}
    return [(call, last if call is plans.run_from_loop else good) for call, good in found]


def wrong_registers():
    return [thing for thing in strange_values() + ["b", "ab", ("a",)] if not (type(thing) is str and thing == "a")]


def wrong_updates():
    """Values that are no updates that the site 0 of the joined line can apply."""
    things = strange_values() + variants(UPDATE, PARTS + (2, ZERO)) + [(0, "a", ZERO), (1, "b", ZERO), (2, "b", ZERO)]
    return [thing for thing in things
            if not oracle_runs.is_update(JOINED, PLAN, thing) or thing[:2] != (1, "a")]


def wrong_of(name, good):
    """The error of a parameter, and the values that are wrong for it."""
    plan = good.get("plan")
    if name == "place":
        with_clients = good.keys() & {"counts"}
        return BadPlace, wrong_sites(JOINED) if with_clients else wrong_places(JOINED)
    return {
        "placement": lambda: (BadPlacement, wrong_placements()),
        "plan": lambda: (BadPlan, wrong_plans(JOINED, plan)),
        "run": lambda: (BadRun, wrong_runs(JOINED, plan, RUN)),
        "counts": lambda: (BadCounts, wrong_counts(plan, 0, ZERO)),
        "mine": lambda: (BadCounts, wrong_counts(plan, 3, ZERO)),
        "its": lambda: (BadCounts, wrong_counts(plan, 0, ZERO)),
        "register": lambda: (BadRegister, wrong_registers()),
        "update": lambda: (BadUpdate, wrong_updates()),
        "client": lambda: (BadPlace, wrong_clients(JOINED)),
        "site": lambda: (BadPlace, wrong_sites(JOINED) + [1]),
        "m": lambda: (BadUpdate, [thing for thing in strange_values() + [2, 3, -1] if type(thing) is not int
                                  or not 0 <= thing < 2]),
        "edge": lambda: (BadEdge, wrong_edges(JOINED)),
        "loop": lambda: (BadLoop, strange_values()),
    }[name]()


class InterfaceTests(unittest.TestCase):
    def test_by_position_and_by_name(self):
        check_ways_of_calling(self, calls())

    def test_errors_by_their_order(self):
        for call, good in calls():
            wrong = [(name,) + wrong_of(name, good) for name in good if name != "thing"]
            if call is plans.run_from_loop:
                wrong = wrong[:4]
            check_errors(self, call, good, wrong)

    def test_errors_come_before_any_thing(self):
        """A thing that is none, or anything else, changes nothing of the errors before it."""
        for call, good in calls():
            if "thing" in good:
                wrong = [(name,) + wrong_of(name, good) for name in good if name != "thing"]
                for at, thing in enumerate((None, [], {"a": 1}, PLAN, ("right",))):
                    check_errors(self, call, {**good, "thing": thing},
                                 [(name, error, values[at::29]) for name, error, values in wrong])

    def test_any_thing_gives_true_or_false(self):
        for call, good in calls():
            if "thing" in good:
                self.assertIn(call.__name__, MAY_BE_ANY)
                for thing in strange_values() + variants(PLAN, PARTS)[::5] + variants(RUN, PARTS)[::5]:
                    named = {**good, "thing": thing}
                    self.assertIn(told(call, **named), (True, False))
                    self.assertIs(type(told(call, *named.values())), bool)

    def test_true_and_false(self):
        names = ("is_plan", "is_enough", "are_counts", "is_update", "may_apply", "may_visit", "is_run", "is_event",
                 "run_holds", "plan_holds", "is_right")
        for call, good in calls():
            if call.__name__ in names:
                self.assertIs(type(told(call, **good)), bool, call.__name__)


class OrderTests(unittest.TestCase):
    """Several wrong values at once, where the order is not that of the parameters alone."""

    def test_applied_is_not_ready(self):
        early = (1, "a", (0, 2, 0, 0))
        self.assertEqual(told(counts.applied, JOINED, PLAN, 0, ZERO, early), (NotReady, {}))
        self.assertIs(told(counts.may_apply, JOINED, PLAN, 0, ZERO, early), False)
        for thing in wrong_updates():
            self.assertEqual(told(counts.applied, JOINED, PLAN, 0, ZERO, thing), (BadUpdate, {"thing": thing}))
        self.assertEqual(told(counts.applied, JOINED, PLAN, 0, (0,), early), (BadCounts, {"thing": (0,)}))
        self.assertEqual(told(counts.applied, JOINED, PLAN, 3, (0,), early), (BadPlace, {"thing": 3}))

    def test_visited_is_not_ready(self):
        ahead = (0, 1, 0, 0)
        self.assertEqual(told(counts.visited, JOINED, PLAN, 3, 0, ahead, ZERO), (NotReady, {}))
        self.assertIs(told(counts.may_visit, JOINED, PLAN, 3, 0, ahead, ZERO), False)
        self.assertEqual(told(counts.visited, JOINED, PLAN, 3, 0, ahead, [0]), (BadCounts, {"thing": [0]}))
        self.assertEqual(told(counts.visited, JOINED, PLAN, 3, 0, None, [0]), (BadCounts, {"thing": None}))
        self.assertEqual(told(counts.visited, JOINED, PLAN, 3, 1, None, [0]), (BadPlace, {"thing": 1}))
        self.assertEqual(told(counts.visited, JOINED, PLAN, 0, 3, None, [0]), (BadPlace, {"thing": 0}))

    def test_counts_of_places_that_count_less(self):
        self.assertEqual(told(counts.visited, JOINED, BLIND, 3, 0, ZERO, ZERO), (BadCounts, {"thing": ZERO}))
        self.assertEqual(told(counts.visited, JOINED, BLIND, 3, 0, (), ZERO), (BadCounts, {"thing": ZERO}))
        self.assertEqual(told(counts.visited, JOINED, BLIND, 3, 0, (), (0, 1)), ((), (0, 1)))

    def test_a_client_of_two_visits_its_own_sites(self):
        plan = needs.least_plan(ALONE)
        for client, site in ((3, 2), (3, 3), (3, 4), (4, 3), (3, True), (3, "0"), (3, -1)):
            for call in (counts.may_visit, counts.visited):
                self.assertEqual(told(call, ALONE, plan, client, site, (), ()), (BadPlace, {"thing": site}))
        for client in (0, 2, 5, -1, False, None):
            self.assertEqual(told(counts.may_visit, ALONE, plan, client, 9, 0, 0), (BadPlace, {"thing": client}))

    def test_written(self):
        self.assertEqual(told(counts.written, JOINED, PLAN, 3, ZERO, "a"), (BadPlace, {"thing": 3}))
        self.assertEqual(told(counts.written, JOINED, PLAN, 0, ZERO, "b"), (BadRegister, {"thing": "b"}))
        self.assertEqual(told(counts.written, JOINED, PLAN, 0, (0,), "b"), (BadCounts, {"thing": (0,)}))

    def test_run_from_loop(self):
        known = {"placement": JOINED, "plan": PLAN, "place": 0, "edge": (1, 2), "loop": None}
        self.assertEqual(told(plans.run_from_loop, **known), (IsCounted, {}))
        self.assertEqual(told(plans.run_from_loop, **{**known, "edge": (1, 0)}), (OwnEdge, {"edge": (1, 0)}))
        self.assertEqual(told(plans.run_from_loop, **{**known, "edge": (0, 2)}), (BadEdge, {"thing": (0, 2)}))
        self.assertEqual(told(plans.run_from_loop, **{**known, "place": 4, "edge": 0}), (BadPlace, {"thing": 4}))
        self.assertEqual(told(plans.run_from_loop, **{**known, "plan": BLIND}), (BadLoop, {"thing": None}))

    def test_a_plan_of_another_placement(self):
        other = needs.least_plan(LINE)
        for call, good in calls():
            if "plan" in good:
                self.assertEqual(told(call, **{**good, "plan": other}), (BadPlan, {"thing": other}))

    def test_a_run_for_another_plan(self):
        run = RUN + (("visit", 3, 2),)
        for call, good in calls():
            if "run" in good:
                self.assertEqual(told(call, **{**good, "run": run}), (BadRun, {"thing": run}))
                self.assertNotIsInstance(told(call, **{**good, "plan": BLIND, "run": run}), LoopError)


class NothingChangesTests(unittest.TestCase):
    def test_the_same_call_returns_an_equal_result(self):
        for call, good in calls():
            self.assertEqual(told(call, **good), told(call, **good), call.__name__)

    def test_nothing_is_kept_between_calls(self):
        for placement in NAMED:
            plan = needs.least_plan(placement)
            before = (runs.possible(placement, plan, ()), plans.judge_plan(placement, plan))
            for other in (LINE, JOINED, THREE):
                plans.judge_plan(other, oracle_runs.own(other))
            self.assertEqual((runs.possible(placement, plan, ()), plans.judge_plan(placement, plan)), before)
            self.assertEqual(needs.least_plan(placement), plan)
            self.assertEqual(oracle.places_of(placement), len(plan))

    def test_lists_and_dicts_within_values(self):
        for thing in ([["write", 1, "a"]], ("wrong", [("write", 1, "a")]), {"wrong": RUN}, [list(row) for row in PLAN]):
            for call, good in calls():
                if "thing" in good:
                    self.assertIs(told(call, **{**good, "thing": thing}), False)


if __name__ == "__main__":
    unittest.main()
