"""[0.2] Conventions for Parts 7 to 9: wrong values, their errors in order, and how calls are made."""

import unittest

from causeloops import growth, ranks, standins
from causeloops.errors import (BadChange, BadCounts, BadEdge, BadEdges, BadNumber, BadPlace, BadPlacement, BadPlan,
                               BadSite, BadStandins, BadWrites)
from causeloops.needs import least_plan
from tests import oracle, oracle_growth, oracle_ranks, oracle_runs
from tests.interface import INTERFACE
from tests.samples import ALONE, JOINED, LINE, LoopError, STAR, THREE, strange_values, told, variants
from tests.wrong import (PARTS, check_errors, check_ways_of_calling, wrong_edges, wrong_placements, wrong_places,
                         wrong_plans, wrong_sites)

CLIENTS = ((("a", "b", "c"), ("a",), ("b",), ("a", "b")), ((0, 2), (1, 3)))
EDGES = ((0, 1), (0, 2), (0, 3))
WRITES = ((("a", 4),), (("a", 1), ("z", 2)), (), (("a", 1), ("b", 5)))
VALUES = {
    "placement": CLIENTS, "plan": least_plan(CLIENTS), "site": 0, "edges": EDGES, "others": EDGES[:2], "edge": (0, 3),
    "counts": (2, 3, 5), "standins": ((1, "b"),), "most": 1, "change": ("leave", 4), "place": 4, "writes": WRITES,
    "thing": ("told", ((1, 1), (1, 1))),
}
MAY_BE_ANY = {"edge_holds", "counts_hold", "are_standins", "standins_hold", "is_change"}


def calls():
    """Each function of the interface, with values that are right for it."""
    found = []
    for module in (ranks, standins, growth):
        for name, parameters in INTERFACE[module].items():
            good = {parameter: VALUES[parameter] for parameter in parameters}
            if name == "unpacked":
                good["counts"] = (2, 3)
            found.append((getattr(module, name), good))
    return found


def are_edges(thing):
    return (type(thing) is tuple and all(oracle_runs.is_edge(CLIENTS, edge) for edge in thing)
            and list(thing) == sorted(set(thing)))


def wrong_edge_tuples(from_site):
    """Values that are no ascending tuples of edges; with from_site also those with edges from other sites."""
    parts = PARTS + EDGES + ((1, 0), (2, 3), (0, 4), (0, True), (1, 2), ((0, 1),))
    things = strange_values() + variants(EDGES, parts) + [((1, 0),), ((0, 1), (1, 0)), oracle.edges_of(CLIENTS)]
    return [thing for thing in things
            if not are_edges(thing) or (from_site and any(edge[0] != 0 for edge in thing))]


def wrong_numbers(good, follows):
    """Values that are no counts, or not ones that follow if follows is told."""
    things = strange_values() + variants(good, PARTS) + [(2, 3, 4), (2, 3, 6), (0, 0, 1), (5,), (1, 1, 1, 1), list(good)]
    return [thing for thing in things if not oracle_ranks.are_numbers(thing, len(good))
            or (follows and (thing[2] != thing[0] + thing[1]))]


def wrong_standins():
    things = strange_values() + variants(((0, "d"), (1, "b")), PARTS + ("c",)) + [((4, "a"),), ((1, "zz"),), [(1, "b")]]
    return [thing for thing in things if not oracle_growth.are_standins(CLIENTS, thing)]


def wrong_changes():
    things = strange_values() + [("leave", 6), ("leave", 3), ("join", (0, 4)), ["leave", 4], ("drop", 1, "b")]
    for good in (("keep", 1, "b"), ("drop", 0, "a"), ("join", (0, 1)), ("leave", 4)):
        things += variants(good, PARTS + ("keep", "drop", "join", "leave", 3, 4, 5, 6))
    return [thing for thing in things if not oracle_growth.is_change(CLIENTS, thing)]


def wrong_writes():
    parts = PARTS + (("a", 1), ["a", 1], ("a", 0), ("a", True), ("A", 1), ("a", 1, 1), (("a", 1),), "abcdefghijk")
    things = strange_values() + variants(WRITES, parts) + [WRITES + ((),) * 2, ((),) * 6, ()]
    return [thing for thing in things if not oracle_growth.are_writes(CLIENTS, thing)]


def wrong_of(call, name, good):
    """The error of a parameter, and the values that are wrong for it."""
    from_site = "site" in good
    others = [(j, k) for j in range(4) for k in range(4) if j != 0] if from_site else []
    return {
        "placement": lambda: (BadPlacement, wrong_placements()),
        "plan": lambda: (BadPlan, wrong_plans(CLIENTS, VALUES["plan"])[::7]),
        "site": lambda: (BadSite, wrong_sites(CLIENTS)),
        "edges": lambda: (BadEdges, wrong_edge_tuples(from_site)),
        "others": lambda: (BadEdges, wrong_edge_tuples(from_site)),
        "edge": lambda: (BadEdge, wrong_edges(CLIENTS) + others),
        "counts": lambda: (BadCounts, wrong_numbers(good["counts"], call is ranks.packed)),
        "standins": lambda: (BadStandins, wrong_standins()),
        "most": lambda: (BadNumber, [thing for thing in strange_values() + [-2, "1", (1,)]
                                     if type(thing) is not int or thing < 0]),
        "change": lambda: (BadChange, wrong_changes()),
        "place": lambda: (BadPlace, wrong_places(CLIENTS)),
        "writes": lambda: (BadWrites, wrong_writes()),
    }[name]()


class InterfaceTests(unittest.TestCase):
    def test_by_position_and_by_name(self):
        check_ways_of_calling(self, calls())

    def test_errors_by_their_order(self):
        for call, good in calls():
            check_errors(self, call, good, [(name,) + wrong_of(call, name, good) for name in good if name != "thing"])

    def test_errors_come_before_any_thing(self):
        for call, good in calls():
            if "thing" in good:
                wrong = [(name,) + wrong_of(call, name, good) for name in good if name != "thing"]
                for thing in (None, [], {"a": 1}, ("none",), ("best",)):
                    check_errors(self, call, {**good, "thing": thing},
                                 [(name, error, values[1::31]) for name, error, values in wrong])

    def test_any_thing_gives_true_or_false(self):
        for call, good in calls():
            if "thing" in good:
                self.assertIn(call.__name__, MAY_BE_ANY)
                things = strange_values() + variants(("told", ((1, 1), (1, 1))), PARTS + ((1, 1),))[::3]
                things += variants(("open", (0, 0, 0), (0, 1, 0)), PARTS)[::3] + variants(("writes", (1, 1, 0)), PARTS)
                things += variants(("less", ((1, "b"),)), PARTS) + wrong_changes()[::3]
                for thing in things:
                    self.assertIs(type(told(call, **{**good, "thing": thing})), bool)
                    self.assertIs(type(told(call, *good.values())), bool)

    def test_true_and_false(self):
        for call, good in calls():
            if call.__name__ in MAY_BE_ANY | {"is_whole"}:
                self.assertIs(type(told(call, **good)), bool, call.__name__)


class OrderTests(unittest.TestCase):
    """Several wrong values at once, and values that are right elsewhere."""

    def test_edges_of_another_site(self):
        for call in (ranks.basis, ranks.rank, ranks.weights):
            self.assertEqual(told(call, CLIENTS, 1, EDGES), (BadEdges, {"thing": EDGES}))
            self.assertEqual(told(call, CLIENTS, 4, EDGES), (BadSite, {"thing": 4}))
            self.assertEqual(told(call, CLIENTS, True, EDGES), (BadSite, {"thing": True}))
            self.assertEqual(told(call, CLIENTS, 0, ((0, 1), (1, 0))), (BadEdges, {"thing": ((0, 1), (1, 0))}))
            self.assertEqual(told(call, LINE, 0, EDGES), (BadEdges, {"thing": EDGES}))
        self.assertEqual(told(ranks.judge_edge, CLIENTS, 0, (), (1, 0)), (BadEdge, {"thing": (1, 0)}))
        self.assertEqual(told(ranks.judge_edge, CLIENTS, 1, EDGES, None), (BadEdges, {"thing": EDGES}))
        self.assertEqual(told(ranks.judge_edge, ALONE, 1, (), (1, 0)), (BadEdge, {"thing": (1, 0)}))

    def test_counts_of_another_number_of_edges(self):
        for counts in ((2, 3), (2, 3, 5, 0), ()):
            for call in (ranks.packed, ranks.judge_counts):
                self.assertEqual(told(call, CLIENTS, 0, EDGES, counts), (BadCounts, {"thing": counts}))
        for counts in ((2,), (2, 3, 5), ()):
            self.assertEqual(told(ranks.unpacked, CLIENTS, 0, EDGES, counts), (BadCounts, {"thing": counts}))
        self.assertEqual(told(ranks.judge_counts, CLIENTS, 0, EDGES, (1, 1, 1)), ("none",))

    def test_groups(self):
        edges = ((0, 1), (1, 0), (1, 3))
        self.assertNotIsInstance(told(ranks.groups, CLIENTS, edges)[0], type)
        self.assertEqual(told(ranks.groups, CLIENTS, edges[::-1]), (BadEdges, {"thing": edges[::-1]}))
        self.assertEqual(told(ranks.groups, None, edges[::-1]), (BadPlacement, {"thing": None}))

    def test_stand_ins_and_most(self):
        self.assertEqual(told(standins.judge_standins, CLIENTS, ((0, "a"),), -1), (BadStandins, {"thing": ((0, "a"),)}))
        self.assertEqual(told(standins.judge_standins, CLIENTS, (), -1), (BadNumber, {"thing": -1}))
        self.assertEqual(told(standins.standins_hold, CLIENTS, (), True, ("best",)), (BadNumber, {"thing": True}))
        self.assertEqual(told(standins.best_price, None, True), (BadPlacement, {"thing": None}))

    def test_changes(self):
        self.assertEqual(told(growth.place_after, CLIENTS, ("leave", 3), 9), (BadChange, {"thing": ("leave", 3)}))
        self.assertEqual(told(growth.place_after, CLIENTS, ("leave", 4), 6), (BadPlace, {"thing": 6}))
        # Places are those of before: a client that joins has none.
        self.assertEqual(told(growth.place_after, CLIENTS, ("join", (0, 1)), 6), (BadPlace, {"thing": 6}))
        self.assertEqual(told(growth.counts_anew, CLIENTS, ("leave", 9), ()), (BadChange, {"thing": ("leave", 9)}))
        self.assertEqual(told(growth.counts_anew, CLIENTS, ("leave", 4), ()), (BadWrites, {"thing": ()}))

    def test_a_plan_of_another_placement(self):
        for call in (ranks.is_whole, ranks.whole, ranks.numbers):
            self.assertEqual(told(call, THREE, least_plan(LINE)), (BadPlan, {"thing": least_plan(LINE)}))


class NothingChangesTests(unittest.TestCase):
    def test_the_same_call_returns_an_equal_result(self):
        for call, good in calls():
            first = told(call, **good)
            for placement in (JOINED, STAR):
                told(call, **{**good, "placement": placement})
            self.assertEqual(told(call, **good), first, call.__name__)

    def test_lists_and_dicts_within_values(self):
        for thing in (("told", [(1, 1), (1, 1)]), ("told", ([1, 1], [1, 1])), ["best"], ("less", [(1, "b")]), {"best": 1},
                      ("keep", [1], "b"), ("join", [0, 1]), ("writes", {0: 1}), ({}, {}), ([], [], [])):
            for call, good in calls():
                if "thing" in good:
                    self.assertIs(told(call, **{**good, "thing": thing}), False)

    def test_errors_are_all_of_the_package(self):
        for error in (BadChange, BadCounts, BadEdges, BadNumber, BadSite, BadStandins, BadWrites):
            self.assertEqual(error.__bases__, (LoopError,))


if __name__ == "__main__":
    unittest.main()
