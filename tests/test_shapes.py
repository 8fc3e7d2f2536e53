"""[10.1] The graph of places, [10.2] Blocks, [10.3] Needs by blocks, [10.4] Special shapes and [9.3] What changes bring."""

import unittest
from itertools import combinations

from causeloops.growth import changed, news, place_after
from causeloops.needs import least_plan, needed
from causeloops.ranks import numbers
from causeloops.shapes import blocks, cuts, needs_by_blocks, parts, restricted, ring_holds, ring_of, shape
from tests import oracle, oracle_growth, oracle_shapes
from tests.samples import (ALONE, EMPTY, FULL, HEARD, JOINED, LINE, RING, STAR, THREE, drawn_placements,
                           many_placements, strange_values, variants)

KITE = ((("a", "c"), ("a", "b"), ("b", "c", "d"), ("d",), ("e",)), ())
CHORD = ((("a", "d", "x"), ("a", "b"), ("b", "c", "x"), ("c", "d")), ())
BUTTERFLY = ((("a", "c"), ("a", "b"), ("b", "c", "d", "f"), ("d", "e"), ("e", "f")), ())
CHAIN = ((("a",), ("a", "b"), ("b", "c"), ("c", "d"), ("d",)), ())
TWO_RINGS = ((("a", "c"), ("a", "b"), ("b", "c"), ("d", "f"), ("d", "e"), ("e", "f")), ())
BRIDGED = (TWO_RINGS[0], ((0, 3),))
SPLIT = ((("a",), ("b",), ("b",)), ((0, 1), (0, 2)))
LEFT_OVER = ((("a",), ("b",), ("c",)), ((0, 1, 2), (0, 2)))
SHAPES = (KITE, CHORD, BUTTERFLY, CHAIN, TWO_RINGS, BRIDGED, SPLIT, LEFT_OVER)


def shaped_placements():
    found = list(SHAPES) + many_placements()
    found += drawn_placements(20, 81, 5, 5, 0) + drawn_placements(20, 82, 4, 4, 2) + drawn_placements(8, 83, 6, 6, 1)
    return found


class GraphTests(unittest.TestCase):
    def test_parts(self):
        self.assertEqual(parts(KITE), ((0, 1, 2, 3), (4,)))
        self.assertEqual(parts(placement=TWO_RINGS), ((0, 1, 2), (3, 4, 5)))
        self.assertEqual(parts(BRIDGED), ((0, 1, 2, 3, 4, 5, 6),))
        self.assertEqual(parts(((("a",), ("b",), ("a",), ("b",)), ())), ((0, 2), (1, 3)))
        self.assertEqual(parts(ALONE), ((0, 1, 2, 3, 4),))
        self.assertEqual((parts(EMPTY), parts((((), ()), ()))), ((), ((0,), (1,))))

    def test_blocks_and_joint_places(self):
        self.assertEqual((blocks(KITE), cuts(KITE)), (((0, 1, 2), (2, 3)), (2,)))
        self.assertEqual((blocks(BUTTERFLY), cuts(BUTTERFLY)), (((0, 1, 2), (2, 3, 4)), (2,)))
        self.assertEqual((blocks(CHAIN), cuts(CHAIN)), (((0, 1), (1, 2), (2, 3), (3, 4)), (1, 2, 3)))
        self.assertEqual((blocks(placement=CHORD), cuts(placement=CHORD)), (((0, 1, 2, 3),), ()))
        self.assertEqual(blocks(BRIDGED), ((0, 1, 2), (0, 6), (3, 4, 5), (3, 6)))
        self.assertEqual(cuts(BRIDGED), (0, 3, 6))
        self.assertEqual(blocks(JOINED), ((0, 1, 2, 3),))
        self.assertEqual((blocks(EMPTY), cuts(EMPTY), blocks((((), ("a",)), ()))), ((), (), ()))

    def test_a_block_of_two_places(self):
        self.assertEqual((blocks(LINE), cuts(LINE)), (((0, 1), (1, 2)), (1,)))
        self.assertEqual(blocks(((("a",), ("a",), ("b",)), ())), ((0, 1),))
        self.assertEqual(blocks(LEFT_OVER), ((0, 2, 3, 4), (1, 3)))

    def test_as_by_all_rings(self):
        kinds = set()
        for placement in shaped_placements():
            self.assertEqual(parts(placement), oracle_shapes.parts(placement), placement)
            self.assertEqual(blocks(placement), oracle_shapes.blocks(placement), placement)
            self.assertEqual(cuts(placement), oracle_shapes.cuts(placement), placement)
            kinds.add((len(parts(placement)), len(blocks(placement))))
        self.assertGreater(len(kinds), 12)


class ShapeTests(unittest.TestCase):
    def test_named(self):
        for placement, expected in ((KITE, "other"), (CHORD, "other"), (BUTTERFLY, "other"), (CHAIN, "forest"),
                                    (TWO_RINGS, "other"), (BRIDGED, "clients"), (LINE, "forest"), (JOINED, "clients"),
                                    (THREE, "ring"), (RING, "ring"), (STAR, "forest"), (FULL, "full"), (HEARD, "other"),
                                    (ALONE, "clients"), (EMPTY, "alone"), ((((), ("a",), ("b",)), ()), "alone"),
                                    ((((),), ()), "alone"), (((("a",), ("a",)), ()), "forest")):
            self.assertEqual(shape(placement), expected, placement)
            self.assertEqual(shape(placement=placement), expected)

    def test_nearly_a_ring(self):
        three = ((("a", "c", "x"), ("a", "b", "x"), ("b", "c", "x")), ())
        self.assertEqual(shape(three), "other")
        self.assertEqual(shape((THREE[0] + ((),), ())), "other")
        self.assertEqual(shape((THREE[0] + (("c",),), ())), "other")
        private = ((("a", "d", "x"), ("a", "b", "y"), ("b", "c"), ("c", "d")), ())
        self.assertEqual(shape(private), "ring")
        twice = ((("a", "d", "e"), ("a", "b", "e"), ("b", "c"), ("c", "d")), ())
        self.assertEqual(shape(twice), "ring")

    def test_nearly_full(self):
        self.assertEqual(shape(((("a", "b"), ("a", "b"), ("a",)), ())), "other")
        self.assertEqual(shape(((("a",), ("a",), ("a",), ()), ())), "other")
        self.assertEqual(shape(((("a",), ("a",), ("a",)), ((0, 1),))), "clients")

    def test_as_in_another_reading(self):
        found = {}
        for placement in shaped_placements():
            kind = shape(placement)
            self.assertEqual(kind, oracle_shapes.shape(placement), placement)
            found[kind] = found.get(kind, 0) + 1
        self.assertEqual(sorted(found), ["alone", "clients", "forest", "full", "other", "ring"])

    def test_what_each_shape_needs(self):
        for placement in shaped_placements():
            kind, plan = shape(placement), least_plan(placement)
            edges = oracle.edges_of(placement)
            if kind == "alone":
                self.assertEqual(plan, ((),) * oracle.places_of(placement))
            if kind == "forest":
                self.assertTrue(all(place in edge for place, row in enumerate(plan) for edge in row))
            if kind in ("full", "ring"):
                self.assertEqual(plan, (edges,) * oracle.places_of(placement))
            if kind == "full":
                self.assertEqual(numbers(placement, plan), (len(plan),) * len(plan))


class NeedsTests(unittest.TestCase):
    def test_named(self):
        self.assertEqual(needs_by_blocks(KITE)[0], (((0, 1, 2), ((1, 2), (2, 1))),))
        self.assertEqual(needs_by_blocks(KITE)[2], (((0, 1, 2), ((0, 1), (1, 0))), ((2, 3), ())))
        self.assertEqual(needs_by_blocks(KITE)[3:], ((((2, 3), ()),), ()))
        self.assertEqual(needs_by_blocks(placement=EMPTY), ())

    def test_a_client_that_is_left_with_one_site(self):
        self.assertEqual(needs_by_blocks(BRIDGED)[6], (((0, 6), ()), ((3, 6), ())))
        self.assertEqual(needs_by_blocks(LEFT_OVER)[3], (((0, 2, 3, 4), ()), ((1, 3), ())))

    def test_by_loops_within_the_block(self):
        for placement in shaped_placements():
            self.assertEqual(needs_by_blocks(placement), oracle_shapes.needs_by_blocks(placement), placement)

    def test_the_needs_of_the_restricted_placement(self):
        for placement in shaped_placements()[::3]:
            found = needs_by_blocks(placement)
            for block in blocks(placement):
                sites = [place for place in block if place < oracle.sites_of(placement)]
                if len(sites) > 1:
                    alone = restricted(placement, block)
                    self.assertEqual(oracle.places_of(alone), len(block))
                    for at, place in enumerate(block):
                        edges = [(block[j], block[k]) for j, k in needed(alone, at) if at not in (j, k)]
                        self.assertIn((block, tuple(edges)), found[place])

    def test_own_edges_and_those_of_the_blocks_are_all(self):
        joined = 0
        for placement in shaped_placements():
            for place, rows in enumerate(needs_by_blocks(placement)):
                own = [edge for edge in oracle.edges_of(placement) if place in edge]
                others = [edge for _, edges in rows for edge in edges]
                self.assertEqual(needed(placement, place), tuple(sorted(own + others)))
                self.assertTrue(all(set(edge) <= set(block) for block, edges in rows for edge in edges))
                joined += sum(bool(edges) for _, edges in rows) > 1
        self.assertGreater(joined, 2)


class RestrictedTests(unittest.TestCase):
    def test_named(self):
        self.assertEqual(restricted(KITE, (2, 3)), ((("b", "c", "d"), ("d",)), ()))
        self.assertEqual(restricted(placement=BRIDGED, places=(0, 3, 6)), ((("a", "c"), ("d", "f")), ((0, 1),)))
        self.assertEqual(restricted(BRIDGED, (0, 1, 6)), ((("a", "c"), ("a", "b")), ()))
        self.assertEqual(restricted(LEFT_OVER, (0, 2, 3, 4)), ((("a",), ("c",)), ((0, 1), (0, 1))))
        self.assertEqual(restricted(LEFT_OVER, (0, 1, 3, 4)), ((("a",), ("b",)), ((0, 1),)))
        self.assertEqual(restricted(LEFT_OVER, (1, 2)), ((("b",), ("c",)), ()))

    def test_all_that_can_be_asked_for(self):
        for placement in SHAPES + (ALONE, JOINED, FULL):
            places = range(oracle.places_of(placement))
            for length in range(2, len(places) + 1):
                for group in combinations(places, length):
                    if sum(place < oracle.sites_of(placement) for place in group) > 1:
                        self.assertEqual(restricted(placement, group), oracle_shapes.restricted(placement, group))
            self.assertEqual(restricted(placement, tuple(places)), placement)


class RingTests(unittest.TestCase):
    def check(self, placement, one, other, thing, answer):
        self.assertIs(ring_holds(placement, one, other, thing), answer, thing)
        self.assertIs(ring_holds(placement=placement, one=one, other=other, thing=thing), answer, thing)

    def test_ring_of(self):
        found = {True: 0, False: 0}
        for placement in shaped_placements()[::2]:
            for one in range(oracle.places_of(placement)):
                for other in range(oracle.places_of(placement)):
                    if one != other:
                        ring = ring_of(placement, one, other)
                        self.assertEqual(ring_of(placement=placement, one=one, other=other), ring)
                        expected = any({one, other} <= group for group in oracle_shapes.rings(placement))
                        self.assertIs(ring is not None, expected)
                        self.assertIs(ring_holds(placement, one, other, ring), expected)
                        if expected:
                            self.assertTrue(oracle_shapes.is_ring(placement, ring))
                            self.assertTrue(ring[0] == one and other in ring)
                        found[expected] += 1
        self.assertGreater(min(found.values()), 500)

    def test_two_near_places_are_no_ring(self):
        self.assertIsNone(ring_of(LINE, 0, 1))
        self.assertIsNone(ring_of(((("a", "b"), ("a", "b")), ()), 0, 1))
        self.assertIsNone(ring_of(KITE, 2, 3))
        self.assertIsNone(ring_of(KITE, 0, 4))
        self.check(LINE, 0, 1, (0, 1), False)
        self.check(LINE, 0, 1, None, False)

    def test_rings_that_hold(self):
        for ring in ((0, 1, 2), (0, 2, 1)):
            self.check(KITE, 0, 2, ring, True)
            self.check(KITE, 0, 1, ring, True)
        for ring in ((1, 2, 0), (2, 0, 1), (0, 1), (0, 1, 2, 0), (0, 1, 2, 3), (0, 1, 1), [0, 1, 2], (0, 1, True),
                     (False, 1, 2), (0, 2, -1), (0, 1, 2, 1), (), (0,), "012", (0, "1", 2), (0, 1, 9)):
            self.check(KITE, 0, 2, ring, False)
        self.check(KITE, 0, 3, (0, 1, 2), False)

    def test_the_last_one_is_near_the_first(self):
        self.check(RING, 0, 2, (0, 1, 2, 3), True)
        self.check(RING, 0, 2, (0, 1, 2), False)
        self.check(RING, 0, 2, (0, 2, 1, 3), False)
        self.check(CHORD, 0, 2, (0, 1, 2), True)
        self.check(JOINED, 3, 1, (3, 0, 1, 2), True)
        self.check(BUTTERFLY, 0, 3, (0, 1, 2, 3, 4, 2), False)

    def test_variants(self):
        found = {True: 0, False: 0}
        for placement, one, other, good in ((CHORD, 0, 2, (0, 1, 2)), (RING, 1, 3, (1, 2, 3, 0)), (HEARD, 0, 2, (0, 1, 2, 3))):
            for thing in variants(good, (None, True, 0, 1, 2, 3, 4, -1, "0", (), [0])) + strange_values() + [good]:
                answer = oracle_shapes.is_ring(placement, thing) and thing[0] == one and other in thing
                self.check(placement, one, other, thing, answer)
                found[answer] += 1
        self.assertGreater(min(found.values()), 2)


class WhatChangesBringTests(unittest.TestCase):
    def test_clients_only_add_needs(self):
        joins = leaves = 0
        for placement in shaped_placements()[::5]:
            for change in oracle_growth.changes(placement, ()):
                rows = news(placement, change)
                if change[0] == "join":
                    self.assertTrue(all(less == () for _, less in rows))
                    joins += any(more for more, _ in rows)
                elif change[0] == "leave":
                    self.assertTrue(all(more == () for more, _ in rows))
                    leaves += any(less for _, less in rows)
        self.assertGreater(min(joins, leaves), 5)

    def test_news_come_to_the_blocks_of_the_change_alone(self):
        some = elsewhere = 0
        for placement in shaped_placements()[::5]:
            for change in oracle_growth.changes(placement, ("a", "b", "c")):
                after = changed(placement, change)
                befores = oracle_growth.befores(placement, change)
                who = change[1] if change[0] != "join" else None
                now = len(befores) - 1 if change[0] == "join" else place_after(placement, change, who)
                for place, (more, less) in enumerate(news(placement, change)):
                    before = befores[place]
                    together = place == now or any({place, now} <= set(block) for block in blocks(after))
                    together = together or any({before, who} <= set(block) for block in blocks(placement))
                    if more or less:
                        self.assertTrue(together, (placement, change, place))
                        some += 1
                    elsewhere += not together
        self.assertGreater(min(some, elsewhere), 100)


if __name__ == "__main__":
    unittest.main()
