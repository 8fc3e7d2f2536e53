"""[1.1] Placements and [1.2] Steps and edges."""

import unittest

from causeloops.placements import edges, has_step, is_placement, keeps, places, shared
from tests import oracle
from tests.samples import ALONE, EMPTY, FULL, JOINED, LINE, NAMED, RING, STAR, THREE, many_placements


class IsPlacementTests(unittest.TestCase):
    def check(self, thing, answer):
        self.assertIs(is_placement(thing), answer, thing)
        self.assertIs(is_placement(thing=thing), answer, thing)

    def test_ordinary(self):
        for placement in NAMED:
            self.check(placement, True)
        for placement in many_placements():
            self.check(placement, True)

    def test_no_sites_and_sites_that_keep_nothing(self):
        self.check(((), ()), True)
        self.check((((),), ()), True)
        self.check((((), ()), ((0, 1),)), True)
        self.check(((), ((),)), False)
        self.check(((), ((0, 1),)), False)

    def test_length_of_names(self):
        self.check(((("a",),), ()), True)
        self.check(((("abcdefghij",),), ()), True)
        self.check(((("abcdefghijk",),), ()), False)
        self.check(((("",),), ()), False)
        self.check(((("z" * 1000,),), ()), False)

    def test_letters_of_names(self):
        self.check(((("az",),), ()), True)
        for name in ("A", "aZ", "a b", "a1", "1", "a\n", " ", "_", "a-", "`", "{", "a{", "`a", "~"):
            self.check((((name,),), ()), False)

    def test_names_ascend(self):
        self.check(((("a", "b"),), ()), True)
        self.check(((("a", "aa", "ab", "b"),), ()), True)
        self.check(((("b", "a"),), ()), False)
        self.check(((("a", "a"),), ()), False)
        self.check(((("b", "aa"),), ()), False)
        self.check(((("a", "b", "b"),), ()), False)
        self.check(((("a", "c", "b"),), ()), False)

    def test_names_are_strings_in_tuples(self):
        for row in (("a", 1), (None,), (True,), ("a", ("b",)), (["a"],), "a", "ab", ["a"], {"a": 1}, None, 0, "", True):
            self.check(((row,), ()), False)
            self.check(((("a",), row), ()), False)
        self.check(([("a",)], ()), False)
        self.check((("a",), ()), False)
        self.check(({}, ()), False)

    def test_clients(self):
        sites = (("a",), (), ("b",))
        for row in ((0, 1), (0, 2), (1, 2), (0, 1, 2)):
            self.check((sites, (row,)), True)
            self.check((sites, ((0, 1), row)), True)
        for row in ((), (0,), (2,), (1, 0), (0, 0), (0, 1, 1), (0, 3), (-1, 0), (0, 1, 2, 3), (0, 2, 1), (0, 10 ** 39)):
            self.check((sites, (row,)), False)
            self.check((sites, ((0, 1), row)), False)

    def test_clients_visit_integers_in_tuples(self):
        sites = (("a",), ("a",))
        for row in ((False, True), (0, True), (False, 1), [0, 1], (0, "1"), ("0", "1"), (0, None), None, 0, "01", {}):
            self.check((sites, (row,)), False)
        for clients in ([], [(0, 1)], {}, None, 0, "", (0, 1), ("01",)):
            self.check((sites, clients), False)

    def test_exactly_two_parts(self):
        self.check((), False)
        self.check((((),),), False)
        self.check(((), (), ()), False)
        self.check([(), ()], False)
        self.check("ab", False)
        self.check({0: (), 1: ()}, False)

    def test_goes_by_the_points_alone(self):
        letters = "abcdefghijklmnopqrstuvwxyz"
        self.check((tuple((letter,) for letter in letters), ((0, 25),) * 40), True)
        self.check(((tuple(letters),) * 12, ()), True)


class PlaceTests(unittest.TestCase):
    def test_places(self):
        expected = ((LINE, 3), (JOINED, 4), (THREE, 3), (RING, 4), (STAR, 4), (ALONE, 5), (EMPTY, 0))
        for placement, number in expected:
            self.assertEqual(places(placement), number)
            self.assertEqual(places(placement=placement), number)

    def test_keeps(self):
        self.assertEqual([keeps(JOINED, place) for place in range(4)], [("a",), ("a", "b"), ("b",), ()])
        self.assertEqual([keeps(placement=ALONE, place=place) for place in range(5)], [("a",), (), ("b",), (), ()])

    def test_shared(self):
        self.assertEqual(shared(FULL, 0, 2), ("a", "b"))
        self.assertEqual(shared(placement=RING, one=0, other=3), ("d",))
        self.assertEqual(shared(RING, 0, 2), ())
        wide = ((("a", "c", "d", "f"), ("b", "c", "d", "e", "f")), ())
        self.assertEqual([shared(wide, 0, 1), shared(wide, 1, 0)], [("c", "d", "f")] * 2)

    def test_shared_with_itself_and_with_clients(self):
        for place in range(4):
            self.assertEqual(shared(JOINED, place, place), ())
            self.assertEqual(shared(JOINED, place, 3), ())
            self.assertEqual(shared(JOINED, 3, place), ())
        self.assertEqual(shared(ALONE, 3, 4), ())

    def test_steps(self):
        steps = [(one, other) for one in range(4) for other in range(4) if has_step(JOINED, one, other)]
        self.assertEqual(steps, [(0, 1), (0, 3), (1, 0), (1, 2), (2, 1), (2, 3), (3, 0), (3, 2)])
        self.assertIs(has_step(placement=JOINED, one=3, other=0), True)
        self.assertIs(has_step(placement=JOINED, one=3, other=1), False)

    def test_no_step_with_itself_and_between_clients(self):
        for place in range(5):
            self.assertIs(has_step(ALONE, place, place), False)
        self.assertIs(has_step(ALONE, 3, 4), False)
        self.assertIs(has_step(ALONE, 4, 3), False)

    def test_no_step_between_sites_by_a_client_alone(self):
        self.assertIs(has_step(ALONE, 0, 1), False)
        self.assertEqual(edges(ALONE), ())

    def test_clients_are_numbered_behind_the_sites(self):
        placement = ((("a",), ("b",), ("c",)), ((0, 1), (1, 2)))
        self.assertEqual([has_step(placement, 3, site) for site in range(3)], [True, True, False])
        self.assertEqual([has_step(placement, site, 4) for site in range(3)], [False, True, True])

    def test_edges(self):
        self.assertEqual(edges(LINE), ((0, 1), (1, 0), (1, 2), (2, 1)))
        self.assertEqual(edges(placement=STAR), ((0, 1), (0, 2), (0, 3), (1, 0), (2, 0), (3, 0)))
        self.assertEqual(edges(EMPTY), ())
        self.assertEqual(len(edges(((("a",),) * 6, ()))), 30)

    def test_against_the_second_reading(self):
        for placement in many_placements():
            count = oracle.places_of(placement)
            self.assertEqual(places(placement), count)
            self.assertEqual(edges(placement), oracle.edges_of(placement))
            for one in range(count):
                self.assertEqual(keeps(placement, one), tuple(sorted(oracle.kept(placement, one))))
                for other in range(count):
                    both = oracle.kept(placement, one) & oracle.kept(placement, other)
                    self.assertEqual(shared(placement, one, other), tuple(sorted(both)) if one != other else ())
                    self.assertIs(has_step(placement, one, other), oracle.is_step(placement, one, other))


if __name__ == "__main__":
    unittest.main()
