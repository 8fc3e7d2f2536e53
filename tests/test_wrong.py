"""[0.2] Conventions for Parts 1 and 2: wrong values, their errors in order, and how calls are made."""

import unittest

from causeloops import loops, placements
from causeloops.errors import BadEdge, BadPlace, BadPlacement, OwnEdge
from causeloops.loops import has_loop, judge_loop, left_ways, loop_holds
from causeloops.placements import edges, has_step, is_placement, keeps, places, shared
from tests import oracle
from tests.interface import INTERFACE
from tests.samples import FULL, JOINED, LINE, NAMED, THREE, strange_values, told, variants
from tests.wrong import PARTS, check_ways_of_calling, is_valid, wrong_edges, wrong_placements, wrong_places

OF_EDGES = (judge_loop, has_loop, left_ways)


class InterfaceTests(unittest.TestCase):
    def test_by_position_and_by_name(self):
        values = {"placement": THREE, "thing": ("loop", (2,), (1,)), "place": 0, "edge": (1, 2), "one": 0, "other": 1}
        check_ways_of_calling(self, [(getattr(module, name), {parameter: values[parameter] for parameter in parameters})
                                     for module in (placements, loops) for name, parameters in INTERFACE[module].items()])

    def test_the_same_call_returns_an_equal_result(self):
        for placement in NAMED:
            self.assertEqual(edges(placement), edges(placement))
            for place, edge in oracle.questions(placement):
                first = [call(placement, place, edge) for call in OF_EDGES]
                self.assertEqual([call(placement, place, edge) for call in OF_EDGES], first)


class WrongPlacementTests(unittest.TestCase):
    def test_is_placement_takes_any_value(self):
        for thing in wrong_placements():
            self.assertIs(told(is_placement, thing), False, thing)
            self.assertIs(told(is_placement, thing=thing), False, thing)
        for placement in (LINE, JOINED, THREE):
            for thing in variants(placement, PARTS):
                self.assertIs(told(is_placement, thing), is_valid(thing), thing)

    def test_all_raise_bad_placement_first(self):
        wrong = (None, True, (9,), {"b": 2})
        for thing in wrong_placements():
            error = (BadPlacement, {"thing": thing})
            for call in (places, edges):
                self.assertEqual(told(call, thing), error)
                self.assertEqual(told(call, placement=thing), error)
            for place in (0, "x"):
                self.assertEqual(told(keeps, thing, place), error)
            for one in (0, None):
                self.assertEqual(told(shared, thing, one, 1), error)
                self.assertEqual(told(has_step, thing, 1, one), error)
            for call in OF_EDGES:
                self.assertEqual(told(call, thing, 0, (1, 2)), error)
                self.assertEqual(told(call, thing, wrong[0], wrong[1]), error)
            self.assertEqual(told(loop_holds, thing, 0, (1, 2), ("none", ())), error)
            self.assertEqual(told(loop_holds, thing, *wrong[1:]), error)

    def test_the_attribute_is_what_was_passed(self):
        for thing in ([1], {"a": 1}, ((["a"],), ())):
            with self.assertRaises(BadPlacement) as caught:
                places(thing)
            self.assertIs(caught.exception.thing, thing)


class WrongPlaceTests(unittest.TestCase):
    def test_keeps(self):
        for placement in NAMED:
            for place in wrong_places(placement):
                self.assertEqual(told(keeps, placement, place), (BadPlace, {"thing": place}))
                self.assertEqual(told(keeps, placement=placement, place=place), (BadPlace, {"thing": place}))

    def test_the_first_one_that_is_not_a_place(self):
        for placement in NAMED:
            count = oracle.places_of(placement)
            for call in (shared, has_step):
                for place in wrong_places(placement):
                    error = (BadPlace, {"thing": place})
                    self.assertEqual(told(call, placement, place, [count]), error)
                    self.assertEqual(told(call, placement=placement, one=place, other=place), error)
                    for good in range(count):
                        self.assertEqual(told(call, placement, place, good), error)
                        self.assertEqual(told(call, placement, good, place), error)

    def test_of_loops(self):
        for placement in (JOINED, FULL):
            for place in wrong_places(placement):
                error = (BadPlace, {"thing": place})
                for edge in ((0, 1), (0, 0), None, [0, 1], place):
                    for call in OF_EDGES:
                        self.assertEqual(told(call, placement, place, edge), error)
                    self.assertEqual(told(loop_holds, placement, place, edge, ("none", ())), error)
                    self.assertEqual(told(loop_holds, placement, place, edge, None), error)


class WrongEdgeTests(unittest.TestCase):
    def test_no_edges(self):
        for placement in (JOINED, FULL, ((("a",), (), ("b",)), ((0, 1), (0, 1, 2)))):
            for place in range(oracle.places_of(placement)):
                for edge in wrong_edges(placement):
                    error = (BadEdge, {"thing": edge})
                    for call in OF_EDGES:
                        self.assertEqual(told(call, placement, place, edge), error)
                    self.assertEqual(told(loop_holds, placement, place, edge, edge), error)
                    self.assertEqual(told(loop_holds, placement, place=place, edge=edge, thing=None), error)

    def test_own_edges(self):
        for placement in NAMED:
            for edge in oracle.edges_of(placement):
                for place in edge:
                    error = (OwnEdge, {"edge": edge})
                    for call in OF_EDGES:
                        self.assertEqual(told(call, placement, place, edge), error)
                        self.assertEqual(told(call, edge=edge, place=place, placement=placement), error)
                    for thing in (None, ("none", ()), ("loop", (1,), (2,)), [edge]):
                        self.assertEqual(told(loop_holds, placement, place, edge, thing), error)

    def test_an_edge_with_a_wrong_part_is_no_own_edge(self):
        self.assertEqual(told(has_loop, THREE, 0, (0, 0)), (BadEdge, {"thing": (0, 0)}))
        self.assertEqual(told(has_loop, THREE, 0, (0, True)), (BadEdge, {"thing": (0, True)}))
        self.assertEqual(told(has_loop, JOINED, 3, (0, 3)), (BadEdge, {"thing": (0, 3)}))
        self.assertEqual(told(has_loop, LINE, 0, (0, 2)), (BadEdge, {"thing": (0, 2)}))


class NothingChangesTests(unittest.TestCase):
    def test_certificates_of_any_kind(self):
        for thing in strange_values() + [("none", [((2,), [])]), ["loop", [2], [1]], ("loop", [2], {1: 2})]:
            self.assertIs(told(loop_holds, THREE, 0, (1, 2), thing), False)
            self.assertIs(told(loop_holds, THREE, thing=thing, edge=(1, 2), place=0), False)


if __name__ == "__main__":
    unittest.main()
