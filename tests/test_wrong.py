"""[0.2] Conventions: wrong values, their errors in order, and how calls are made."""

import inspect
import unittest

from causeloops import loops, placements
from causeloops.errors import BadEdge, BadPlace, BadPlacement, OwnEdge
from causeloops.loops import has_loop, judge_loop, left_ways, loop_holds
from causeloops.placements import edges, has_step, is_placement, keeps, places, shared
from tests import oracle
from tests.samples import FULL, JOINED, LINE, NAMED, THREE, strange_values, told, variants

PARTS = (None, True, False, 0, 1, -1, 99, "a", "b", "A", "", (), [], {}, ("a",), ["a"], ("b", "a"), (0, 1), [0, 1])
INTERFACE = {
    placements: {
        "is_placement": ("thing",), "places": ("placement",), "keeps": ("placement", "place"),
        "shared": ("placement", "one", "other"), "has_step": ("placement", "one", "other"), "edges": ("placement",),
    },
    loops: {
        "judge_loop": ("placement", "place", "edge"), "loop_holds": ("placement", "place", "edge", "thing"),
        "has_loop": ("placement", "place", "edge"), "left_ways": ("placement", "place", "edge"),
    },
}
OF_EDGES = (judge_loop, has_loop, left_ways)


def is_valid(thing):
    """A second reading of [1.1]."""
    if type(thing) is not tuple or len(thing) != 2 or type(thing[0]) is not tuple or type(thing[1]) is not tuple:
        return False
    for row in thing[0]:
        if type(row) is not tuple or not all(type(name) is str for name in row) or list(row) != sorted(set(row)):
            return False
        if not all(0 < len(name) < 11 and set(name) <= set("abcdefghijklmnopqrstuvwxyz") for name in row):
            return False
    for row in thing[1]:
        if type(row) is not tuple or not all(type(site) is int for site in row) or list(row) != sorted(set(row)):
            return False
        if len(row) < 2 or row[0] < 0 or row[-1] >= len(thing[0]):
            return False
    return True


def wrong_placements():
    things = strange_values()
    for placement in (LINE, JOINED, THREE):
        things += variants(placement, PARTS)
    return [thing for thing in things if not is_valid(thing)]


def wrong_places(placement):
    count = oracle.places_of(placement)
    things = strange_values() + [count, count + 1, -count, str(count - 1), (count - 1,)]
    return [thing for thing in things if type(thing) is not int or not 0 <= thing < count]


def wrong_edges(placement):
    good = oracle.edges_of(placement)
    things = strange_values() + [(one, other) for one in range(-2, 8) for other in range(-2, 8)]
    for edge in good:
        things += variants(edge, PARTS)
    right = [repr(edge) for edge in good]
    return [thing for thing in things if repr(thing) not in right]


class InterfaceTests(unittest.TestCase):
    def test_parameters_and_files(self):
        for module, listed in INTERFACE.items():
            for name, parameters in listed.items():
                call = getattr(module, name)
                self.assertEqual(tuple(inspect.signature(call).parameters), parameters, name)
                self.assertEqual(call.__module__, module.__name__, name)

    def test_by_position_and_by_name(self):
        values = {"placement": THREE, "thing": ("loop", (2,), (1,)), "place": 0, "edge": (1, 2), "one": 0, "other": 1}
        for module, listed in INTERFACE.items():
            for name, parameters in listed.items():
                call, given = getattr(module, name), {parameter: values[parameter] for parameter in parameters}
                self.assertEqual(call(*given.values()), call(**given), name)
                backwards = {parameter: given[parameter] for parameter in reversed(parameters)}
                self.assertEqual(call(**backwards), call(*given.values()), name)

    def test_the_same_call_returns_an_equal_result(self):
        for placement in NAMED:
            self.assertEqual(edges(placement), edges(placement))
            for place, edge in oracle.questions(placement):
                first = [call(placement, place, edge) for call in OF_EDGES]
                self.assertEqual([call(placement, place, edge) for call in OF_EDGES], first)


class WrongPlacementTests(unittest.TestCase):
    def test_is_placement_takes_any_value(self):
        for thing in wrong_placements():
            self.assertIs(told(is_placement, thing), False, thing)
            self.assertIs(told(is_placement, thing=thing), False, thing)
        for placement in (LINE, JOINED, THREE):
            for thing in variants(placement, PARTS):
                self.assertIs(told(is_placement, thing), is_valid(thing), thing)

    def test_all_raise_bad_placement_first(self):
        wrong = (None, True, (9,), {"b": 2})
        for thing in wrong_placements():
            error = (BadPlacement, {"thing": thing})
            for call in (places, edges):
                self.assertEqual(told(call, thing), error)
                self.assertEqual(told(call, placement=thing), error)
            for place in (0, "x"):
                self.assertEqual(told(keeps, thing, place), error)
            for one in (0, None):
                self.assertEqual(told(shared, thing, one, 1), error)
                self.assertEqual(told(has_step, thing, 1, one), error)
            for call in OF_EDGES:
                self.assertEqual(told(call, thing, 0, (1, 2)), error)
                self.assertEqual(told(call, thing, wrong[0], wrong[1]), error)
            self.assertEqual(told(loop_holds, thing, 0, (1, 2), ("none", ())), error)
            self.assertEqual(told(loop_holds, thing, *wrong[1:]), error)

    def test_the_attribute_is_what_was_passed(self):
        for thing in ([1], {"a": 1}, ((["a"],), ())):
            with self.assertRaises(BadPlacement) as caught:
                places(thing)
            self.assertIs(caught.exception.thing, thing)


class WrongPlaceTests(unittest.TestCase):
    def test_keeps(self):
        for placement in NAMED:
            for place in wrong_places(placement):
                self.assertEqual(told(keeps, placement, place), (BadPlace, {"thing": place}))
                self.assertEqual(told(keeps, placement=placement, place=place), (BadPlace, {"thing": place}))

    def test_the_first_one_that_is_not_a_place(self):
        for placement in NAMED:
            count = oracle.places_of(placement)
            for call in (shared, has_step):
                for place in wrong_places(placement):
                    error = (BadPlace, {"thing": place})
                    self.assertEqual(told(call, placement, place, [count]), error)
                    self.assertEqual(told(call, placement=placement, one=place, other=place), error)
                    for good in range(count):
                        self.assertEqual(told(call, placement, place, good), error)
                        self.assertEqual(told(call, placement, good, place), error)

    def test_of_loops(self):
        for placement in (JOINED, FULL):
            for place in wrong_places(placement):
                error = (BadPlace, {"thing": place})
                for edge in ((0, 1), (0, 0), None, [0, 1], place):
                    for call in OF_EDGES:
                        self.assertEqual(told(call, placement, place, edge), error)
                    self.assertEqual(told(loop_holds, placement, place, edge, ("none", ())), error)
                    self.assertEqual(told(loop_holds, placement, place, edge, None), error)


class WrongEdgeTests(unittest.TestCase):
    def test_no_edges(self):
        for placement in (JOINED, FULL, ((("a",), (), ("b",)), ((0, 1), (0, 1, 2)))):
            for place in range(oracle.places_of(placement)):
                for edge in wrong_edges(placement):
                    error = (BadEdge, {"thing": edge})
                    for call in OF_EDGES:
                        self.assertEqual(told(call, placement, place, edge), error)
                    self.assertEqual(told(loop_holds, placement, place, edge, edge), error)
                    self.assertEqual(told(loop_holds, placement, place=place, edge=edge, thing=None), error)

    def test_own_edges(self):
        for placement in NAMED:
            for edge in oracle.edges_of(placement):
                for place in edge:
                    error = (OwnEdge, {"edge": edge})
                    for call in OF_EDGES:
                        self.assertEqual(told(call, placement, place, edge), error)
                        self.assertEqual(told(call, edge=edge, place=place, placement=placement), error)
                    for thing in (None, ("none", ()), ("loop", (1,), (2,)), [edge]):
                        self.assertEqual(told(loop_holds, placement, place, edge, thing), error)

    def test_an_edge_with_a_wrong_part_is_no_own_edge(self):
        self.assertEqual(told(has_loop, THREE, 0, (0, 0)), (BadEdge, {"thing": (0, 0)}))
        self.assertEqual(told(has_loop, THREE, 0, (0, True)), (BadEdge, {"thing": (0, True)}))
        self.assertEqual(told(has_loop, JOINED, 3, (0, 3)), (BadEdge, {"thing": (0, 3)}))
        self.assertEqual(told(has_loop, LINE, 0, (0, 2)), (BadEdge, {"thing": (0, 2)}))


class NothingChangesTests(unittest.TestCase):
    def test_certificates_of_any_kind(self):
        for thing in strange_values() + [("none", [((2,), [])]), ["loop", [2], [1]], ("loop", [2], {1: 2})]:
            self.assertIs(told(loop_holds, THREE, 0, (1, 2), thing), False)
            self.assertIs(told(loop_holds, THREE, thing=thing, edge=(1, 2), place=0), False)


if __name__ == "__main__":
    unittest.main()
