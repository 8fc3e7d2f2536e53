"""Certificates for many small placements, compared with a search through all pairs of ways."""

import unittest
from itertools import product

from causeloops.loops import has_loop, judge_loop, left_ways, loop_holds
from tests import oracle
from tests.samples import NAMED, drawn_placements, many_placements, strange_values, variants


class SearchTests(unittest.TestCase):
    def test_all_places_and_edges(self):
        kinds = {"loop": 0, "none": 0}
        for placement in many_placements():
            for place, edge in oracle.questions(placement):
                kinds[self.check(placement, place, edge)] += 1
        self.assertGreater(min(kinds.values()), 1000)

    def check(self, placement, place, edge):
        thing = judge_loop(placement, place, edge)
        asked = (placement, place, edge)
        loops = oracle.all_loops(placement, place, edge)
        self.assertEqual(thing[0], "loop" if loops else "none", asked)
        self.assertIs(loop_holds(placement, place, edge, thing), True, asked)
        self.assertTrue(oracle.holds(placement, place, edge, thing), asked)
        self.assertIs(has_loop(placement, place, edge), bool(loops), asked)
        self.assertEqual(left_ways(placement, place, edge), oracle.all_left_ways(placement, place, edge), asked)
        self.assertEqual(judge_loop(placement, place, edge), thing, asked)
        return thing[0]

    def test_changed_certificates(self):
        parts = (None, True, 0, 1, 2, 3, 4, 5, -1, "a", "none", "loop", (), [], (1,), (0, 1), (1, 3), ((2,), ()))
        found = {True: 0, False: 0}
        placements = list(NAMED) + drawn_placements(8, 11, 4, 5, 1) + drawn_placements(4, 12, 5, 6, 0)
        for placement in placements:
            for place, edge in oracle.questions(placement)[::3]:
                for thing in variants(judge_loop(placement, place, edge), parts):
                    answer = oracle.holds(placement, place, edge, thing)
                    self.assertIs(loop_holds(placement, place, edge, thing), answer, (placement, place, edge, thing))
                    found[answer] += 1
        self.assertGreater(min(found.values()), 100)

    def test_certificates_of_others(self):
        for placement in drawn_placements(10, 13, 4, 4, 1):
            asked = oracle.questions(placement)
            things = {judge_loop(placement, place, edge) for place, edge in asked}
            for place, edge in asked:
                for thing in things:
                    answer = oracle.holds(placement, place, edge, thing)
                    self.assertIs(loop_holds(placement, place, edge, thing), answer)

    def check_cuts(self, placement, place, edge, ways):
        """With each set of closed places: exactly the cuts are taken as cuts."""
        count = oracle.places_of(placement)
        shown = judge_loop(placement, place, edge)
        rest = shown[1] if shown[0] == "none" else ()
        for way in ways:
            for bits in range(2 ** count):
                closed = tuple(one for one in range(count) if bits >> one & 1)
                thing = ("none", rest + ((way, closed),))
                answer = oracle.holds(placement, place, edge, thing)
                self.assertIs(loop_holds(placement, place, edge, thing), answer, (placement, place, edge, thing))

    def test_beginnings_of_left_ways(self):
        for placement in drawn_placements(12, 14, 4, 4, 1):
            for place, edge in oracle.questions(placement):
                lefts = left_ways(placement, place, edge)
                ways = {left[:length] for left in lefts for length in range(1, len(left) + 1)}
                self.check_cuts(placement, place, edge, sorted(ways))

    def test_ways_of_all_kinds(self):
        for placement in drawn_placements(8, 16, 4, 4, 0) + drawn_placements(4, 17, 3, 3, 1):
            count = oracle.places_of(placement)
            ways = [way for length in range(4) for way in product(range(count), repeat=length)]
            for place, edge in oracle.questions(placement)[::2]:
                self.check_cuts(placement, place, edge, ways)

    def test_strange_values_are_no_certificates(self):
        for placement in NAMED:
            for place, edge in oracle.questions(placement):
                for thing in strange_values():
                    self.assertIs(loop_holds(placement, place, edge, thing), False)

    def test_greatest_placements(self):
        """At the limits nothing runs long: all places and edges of placements with many steps."""
        ring = tuple(tuple(sorted(("abcdef"[at], "abcdef"[(at + 1) % 6]))) for at in range(6))
        rows = [(("a",),) * 6, (tuple("abcdefghijkl"),) * 6, ring]
        rows += [sites for sites, _ in drawn_placements(5, 15, 6, 12, 0)]
        for sites in rows:
            for clients in ((), ((0, 1, 2, 3, 4, 5),), ((0, 3),)):
                placement = (sites, clients)
                for place, edge in oracle.questions(placement):
                    thing = judge_loop(placement, place, edge)
                    self.assertIs(loop_holds(placement, place, edge, thing), True)


if __name__ == "__main__":
    unittest.main()
