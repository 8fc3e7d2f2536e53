"""[2.1] Loops, [2.2] Cuts and [2.3] Certificates, by hand."""

import unittest

from causeloops.loops import has_loop, judge_loop, left_ways, loop_holds
from tests.samples import ALONE, FULL, HEARD, JOINED, LINE, NAMED, RING, STAR, THREE
from tests import oracle

# 0 is heard by way of 1 and 3 on the right, and tells 4 and 2 on the left; each step has a register of its own.
SITES = {0: "aey", 1: "cd", 2: "cz", 3: "de", 4: "yz"}


def with_registers(more, clients=()):
    """The placement of SITES, with some more registers at some sites."""
    rows = [tuple(sorted(set(SITES[site] + more.get(site, "")))) for site in sorted(SITES)]
    return tuple(rows), clients


class LoopTests(unittest.TestCase):
    def holds(self, placement, place, edge, left, right):
        answer = loop_holds(placement, place, edge, ("loop", left, right))
        self.assertIs(answer, oracle.is_loop(placement, place, edge, left, right))
        return answer

    def test_triangle(self):
        self.assertEqual(judge_loop(THREE, 0, (1, 2)), ("loop", (2,), (1,)))
        self.assertEqual(judge_loop(placement=THREE, place=0, edge=(2, 1)), ("loop", (1,), (2,)))

    def test_line_and_star_have_none(self):
        for placement in (LINE, STAR):
            for place, edge in oracle.questions(placement):
                self.assertIs(has_loop(placement, place, edge), False)
                self.assertEqual(judge_loop(placement, place, edge)[0], "none")

    def test_ring_and_full_have_all(self):
        for placement in (RING, FULL):
            for place, edge in oracle.questions(placement):
                self.assertIs(has_loop(placement=placement, place=place, edge=edge), True)

    def test_client_as_the_place(self):
        for edge in ((0, 1), (1, 0), (1, 2), (2, 1)):
            self.assertIs(has_loop(JOINED, 3, edge), True)
        self.assertEqual(judge_loop(JOINED, 3, (0, 1)), ("loop", (2, 1), (0,)))
        self.assertIs(has_loop(((("a",), ("a",), ("b",)), ((0, 2),)), 3, (0, 1)), False)

    def test_client_visits_both_ends(self):
        both = ((("a",), ("a",)), ((0, 1),))
        self.assertEqual(judge_loop(both, 2, (0, 1)), ("loop", (1,), (0,)))
        self.assertEqual(judge_loop(both, 2, (1, 0)), ("loop", (0,), (1,)))

    def test_all_steps_have_registers_of_their_own(self):
        self.assertTrue(self.holds(with_registers({}), 0, (1, 2), (4, 2), (1, 3)))

    def test_a(self):
        left, right = (4, 2), (1, 3)
        self.assertFalse(self.holds(with_registers({4: "c"}), 0, (1, 2), left, right))
        self.assertTrue(self.holds(with_registers({0: "c", 3: "c"}), 0, (1, 2), left, right))
        self.assertTrue(self.holds(with_registers({4: "c", 1: "x", 2: "x"}), 0, (1, 2), left, right))
        self.assertFalse(self.holds(with_registers({4: "cx", 1: "x", 2: "x"}), 0, (1, 2), left, right))

    def test_b_except_k(self):
        left, right = (4, 2), (1, 3)
        self.assertTrue(self.holds(with_registers({2: "d"}), 0, (1, 2), left, right))
        self.assertFalse(self.holds(with_registers({4: "d"}), 0, (1, 2), left, right))
        self.assertTrue(self.holds(with_registers({4: "d", 1: "x", 3: "x"}), 0, (1, 2), left, right))
        self.assertTrue(self.holds(with_registers({4: "d", 1: "x", 2: "x", 3: "x"}), 0, (1, 2), left, right))

    def test_b_of_the_step_to_the_place(self):
        near = with_registers({1: "a"})
        self.assertTrue(self.holds(near, 0, (1, 2), (4, 2), (1,)))
        self.assertTrue(self.holds(with_registers({1: "a", 2: "a"}), 0, (1, 2), (4, 2), (1,)))
        self.assertFalse(self.holds(with_registers({1: "a", 4: "a"}), 0, (1, 2), (4, 2), (1,)))
        self.assertTrue(self.holds(FULL, 0, (1, 2), (2,), (1,)))

    def test_c_with_k(self):
        left, right = (4, 2), (1, 3)
        self.assertFalse(self.holds(with_registers({2: "e"}), 0, (1, 2), left, right))
        self.assertFalse(self.holds(with_registers({4: "e"}), 0, (1, 2), left, right))
        self.assertTrue(self.holds(with_registers({1: "e"}), 0, (1, 2), left, right))
        self.assertTrue(self.holds(with_registers({2: "e", 0: "x", 3: "x"}), 0, (1, 2), left, right))
        self.assertFalse(self.holds(with_registers({2: "ex", 0: "x", 3: "x"}), 0, (1, 2), left, right))

    def test_visits_as_steps(self):
        # Nothing that left keeps is in the way of a visit.
        tight = {2: "de", 4: "de"}
        self.assertFalse(self.holds(with_registers(tight), 0, (1, 2), (4, 2), (1, 3)))
        clients = ((1, 3), (0, 3), (0, 4), (2, 4))
        self.assertTrue(self.holds(with_registers(tight, clients), 0, (1, 2), (4, 2), (1, 5, 3, 6)))
        self.assertFalse(self.holds(with_registers(tight, clients), 0, (1, 2), (4, 2), (1, 5, 3)))
        self.assertFalse(self.holds(with_registers(tight, clients), 0, (1, 2), (4, 2), (1, 3, 6)))
        self.assertTrue(self.holds(with_registers(tight, clients), 0, (1, 2), (7, 4, 8, 2), (1, 5, 3, 6)))
        self.assertFalse(self.holds(with_registers(tight, clients), 0, (1, 2), (8, 4, 2), (1, 5, 3, 6)))

    def test_clients_on_the_left_keep_nothing(self):
        self.assertTrue(self.holds(JOINED, 0, (1, 2), (3, 2), (1,)))
        full = (FULL[0] + (("a", "b"),), ((0, 2), (0, 3)))
        self.assertTrue(self.holds(full, 0, (1, 2), (4, 2), (1,)))
        self.assertFalse(self.holds(full, 0, (1, 2), (5, 3, 2), (1,)))

    def test_form_of_both_ways(self):
        placement = with_registers({})
        wrong = (
            ((), (1, 3)), ((4,), (1, 3)), ((2,), (1, 3)), ((4, 2, 4), (1, 3)), ((2, 4), (1, 3)),
            ((4, 2), ()), ((4, 2), (3,)), ((4, 2), (3, 1)), ((4, 2), (1,)), ((4, 2), (1, 3, 3)),
            ((4, 2), (1, 3, 0)), ((0, 4, 2), (1, 3)), ((4, 2), (1, 2)), ((4, 1, 2), (1, 3)), ((4, 2), (1, 5)),
            ((4, 2), (1, -2)), ((-1, 2), (1, 3)), ((4, 4, 2), (1, 3)), ((4, 2), (1, 4)), ((3, 2), (1, 3)),
        )
        for left, right in wrong:
            self.assertFalse(self.holds(placement, 0, (1, 2), left, right), (left, right))

    def test_bools_and_lists_are_no_places(self):
        for thing in (
            ("loop", (True,), (2,)), ("loop", (1,), (2, False)), ["loop", (2,), (1,)], ("loop", [2], (1,)),
            ("loop", (2,), [1]), ("loop", (2,), (1,), ()), ("loop", (2,)), ("none", (2,), (1,)), ("Loop", (2,), (1,)),
            ((2,), (1,)), ("loop", ((2,), (1,))), ("loop", (2,), (True,)), (("loop",), (2,), (1,)),
        ):
            self.assertIs(loop_holds(THREE, 0, (1, 2), thing), False)
            self.assertIs(loop_holds(THREE, 0, (2, 1), thing), False)
        self.assertIs(loop_holds(placement=THREE, place=0, edge=(1, 2), thing=("loop", (2,), (1,))), True)

    def test_other_loops_than_the_judged_one_hold(self):
        for placement in NAMED:
            for place, edge in oracle.questions(placement):
                for left, right in oracle.all_loops(placement, place, edge):
                    self.assertIs(loop_holds(placement, place, edge, ("loop", left, right)), True)


class LeftWayTests(unittest.TestCase):
    def test_by_hand(self):
        self.assertEqual(left_ways(JOINED, 0, (1, 2)), ((3, 2),))
        self.assertEqual(left_ways(LINE, 0, (1, 2)), ())
        self.assertEqual(left_ways(placement=STAR, place=1, edge=(0, 2)), ())
        self.assertEqual(left_ways(FULL, 0, (1, 2)), ((2,),))
        five = ((("a",),) * 5, ())
        self.assertEqual(left_ways(five, 0, (1, 2)), ((2,), (3, 2), (3, 4, 2), (4, 2), (4, 3, 2)))

    def test_both_orders_of_an_edge(self):
        self.assertEqual(left_ways(HEARD, 0, (1, 3)), ((3,),))
        self.assertEqual(left_ways(HEARD, 0, (3, 1)), ((1,),))
        self.assertEqual(left_ways(JOINED, 3, (0, 1)), ((2, 1),))
        self.assertEqual(left_ways(JOINED, 3, (1, 0)), ((0,),))

    def test_most_ways(self):
        seven = ((("a",),) * 6, ((0, 1, 2, 3, 4, 5),))
        self.assertEqual(len(left_ways(seven, 6, (0, 1))), 65)
        self.assertEqual(left_ways(seven, 6, (0, 1)), oracle.all_left_ways(seven, 6, (0, 1)))


class CutTests(unittest.TestCase):
    """Each condition of [2.2], broken alone."""

    def table(self, placement, place, edge, *cuts):
        answer = loop_holds(placement, place, edge, ("none", cuts))
        self.assertIs(answer, oracle.holds(placement, place, edge, ("none", cuts)))
        return answer

    def test_empty_table(self):
        self.assertTrue(self.table(LINE, 0, (1, 2)))
        self.assertFalse(self.table(HEARD, 0, (1, 2)))
        self.assertFalse(self.table(THREE, 0, (1, 2)))

    def test_nothing_closed(self):
        self.assertTrue(self.table(HEARD, 0, (1, 2), ((3,), ())))
        self.assertTrue(self.table(HEARD, 0, (1, 2), ((3, 2), ())))
        # k alone keeps what is shared.
        self.assertFalse(self.table(THREE, 0, (1, 2), ((2,), ())))
        self.assertFalse(self.table(FULL, 0, (1, 2), ((2,), ())))
        # One of two shared registers is kept by no site of the way.
        two = ((("p", "r"), ("c", "d", "r"), ("c", "d", "q"), ("c", "p", "q")), ())
        self.assertFalse(self.table(two, 0, (1, 2), ((3,), ())))
        three = ((("p", "r"), ("c", "d", "r"), ("c", "d", "q"), ("c", "d", "p", "q")), ())
        self.assertTrue(self.table(three, 0, (1, 2), ((3,), ())))

    def test_something_closed(self):
        # 3 lets nothing out but what 0 cannot hear: the step from 3 to 0 is by a register that k keeps.
        shut = ((("e", "y"), ("c", "d"), ("c", "e", "y"), ("d", "e")), ())
        self.assertIs(has_loop(shut, 0, (1, 2)), False)
        self.assertEqual(left_ways(shut, 0, (1, 2)), ((2,), (3, 2)))
        second = ((3, 2), (1,))
        self.assertTrue(self.table(shut, 0, (1, 2), ((2,), (1, 3)), second))
        self.assertFalse(self.table(shut, 0, (1, 2), ((2,), (1,)), second))  # 3 is let out by (b)
        self.assertFalse(self.table(shut, 0, (1, 2), ((2,), (3,)), second))  # without j
        self.assertFalse(self.table(shut, 0, (1, 2), ((2,), (0, 1, 3)), second))  # with i
        self.assertFalse(self.table(shut, 0, (1, 2), ((2,), (1, 2, 3)), second))  # with an item of the way
        self.assertFalse(self.table(shut, 0, (1, 2), ((2,), (3, 1)), second))  # not ascending
        self.assertFalse(self.table(shut, 0, (1, 2), ((2,), (1, 1, 3)), second))
        self.assertFalse(self.table(shut, 0, (1, 2), ((2,), ()), second))
        self.assertFalse(self.table(shut, 0, (1, 2), ((2,), (1, 4)), second))  # not a place
        self.assertFalse(self.table(shut, 0, (1, 2), ((2,), (1, 3))))  # a left way is not covered
        self.assertFalse(self.table(shut, 0, (1, 2), second))
        self.assertTrue(self.table(shut, 0, (1, 2), second, ((2,), (1, 3)), second))

    def test_more_closed_than_is_reached(self):
        placement = ((("e", "y"), ("c",), ("c", "y"), ("f",)), ())
        self.assertTrue(self.table(placement, 0, (1, 2), ((2,), (1,))))
        self.assertTrue(self.table(placement, 0, (1, 2), ((2,), (1, 3))))

    def test_way_that_ends_before_k(self):
        # 1 and 2 share c; beyond 3 nothing of 1 gets to 0, whatever follows.
        placement = ((("p",), ("c",), ("c", "q"), ("p", "q")), ())
        self.assertEqual(left_ways(placement, 0, (1, 2)), ((3, 2),))
        # The step from j to k is by a register that no site of the way keeps, so closed must hold k.
        self.assertFalse(self.table(placement, 0, (1, 2), ((3,), (1,))))
        self.assertTrue(self.table(placement, 0, (1, 2), ((3,), (1, 2))))
        self.assertTrue(self.table(placement, 0, (1, 2), ((3, 2), (1,))))
        self.assertFalse(self.table(placement, 0, (1, 2), ((3, 2), (1, 2))))

    def test_registers_of_k_are_free_before_k(self):
        # 4 tells 5 by a register that k = 2 keeps: that is forbidden only where the way ends with k.
        placement = ((("p",), ("c", "d"), ("c", "e", "q"), ("p", "q"), ("d", "e"), ("e",)), ())
        self.assertEqual(left_ways(placement, 0, (1, 2)), ((3, 2),))
        self.assertTrue(self.table(placement, 0, (1, 2), ((3, 2), (1, 4))))
        self.assertTrue(self.table(placement, 0, (1, 2), ((3, 2), (1, 4, 5))))
        self.assertTrue(self.table(placement, 0, (1, 2), ((3,), (1, 2, 4, 5))))
        self.assertFalse(self.table(placement, 0, (1, 2), ((3,), (1, 2, 4))))
        self.assertFalse(self.table(placement, 0, (1, 2), ((3,), (1, 4, 5))))

    def test_j_alone_tells_by_registers_of_k(self):
        # k = 2 keeps d and e: 1 = j still tells 4 by d, but 4 does not tell 5 by e.
        placement = ((("p",), ("c", "d"), ("c", "d", "e", "q"), ("p", "q"), ("d", "e"), ("e",)), ())
        self.assertEqual(left_ways(placement, 0, (1, 2)), ((3, 2),))
        self.assertTrue(self.table(placement, 0, (1, 2), ((3, 2), (1, 4))))
        self.assertFalse(self.table(placement, 0, (1, 2), ((3, 2), (1,))))
        # What another site of the way keeps is forbidden to j, too.
        kept = placement[0][:3] + (("d", "p", "q"),) + placement[0][4:]
        self.assertEqual(left_ways((kept, ()), 0, (1, 2)), ((3, 2), (3, 4, 2), (3, 4, 5, 2)))
        self.assertTrue(self.table((kept, ()), 0, (1, 2), ((3, 2), (1,)), ((3, 4), (1, 2))))

    def test_form_of_the_way(self):
        good = ((3,), ())
        self.assertTrue(self.table(HEARD, 0, (1, 2), good))
        for way in ((), (0,), (1,), (2,), (3, 0), (3, 1), (3, 3), (2, 3), (3, 2, 3), (4,), (-1,), (3, 2, 2)):
            self.assertFalse(self.table(HEARD, 0, (1, 2), good, (way, ())), way)
            self.assertFalse(self.table(HEARD, 0, (1, 2), good, (way, (1,))), way)
        for way in ([3], "3", None, 3, (3.0,), (True,), ("3",)):
            self.assertIs(loop_holds(HEARD, 0, (1, 2), ("none", (good, (way, ())))), False)

    def test_an_empty_way(self):
        apart = ((("a",), ("b",), ("b",)), ())
        self.assertTrue(self.table(apart, 0, (1, 2)))
        self.assertFalse(self.table(apart, 0, (1, 2), ((), (1, 2))))

    def test_a_way_that_passes_k_or_a_place_twice(self):
        shut = ((("e", "y"), ("c", "d"), ("c", "e", "y"), ("d", "e")), ())
        cuts = ((2,), (1, 3)), ((3, 2), (1,))
        self.assertTrue(self.table(shut, 0, (1, 2), *cuts))
        self.assertFalse(self.table(shut, 0, (1, 2), *cuts, ((2, 3), (1,))))
        longer = (HEARD[0] + (("p",),), ())
        cuts = ((3,), ()), ((4, 3), ())
        self.assertTrue(self.table(longer, 0, (1, 2), *cuts))
        self.assertFalse(self.table(longer, 0, (1, 2), *cuts, ((3, 4, 3), ())))

    def test_a_way_need_not_lead_to_k(self):
        # 4 is a blind end beyond 3; the cut on it covers nothing and harms nothing.
        placement = ((("p",), ("c",), ("c", "q"), ("p", "q", "w"), ("w",)), ())
        self.assertEqual(left_ways(placement, 0, (1, 2)), ((3, 2),))
        self.assertTrue(self.table(placement, 0, (1, 2), ((3, 2), (1,)), ((3, 4), (1, 2))))
        self.assertFalse(self.table(placement, 0, (1, 2), ((3, 4), (1, 2))))

    def test_each_left_way_has_a_beginning(self):
        placement = (HEARD[0] + (("p",),), ())
        self.assertEqual(left_ways(placement, 0, (1, 2)), ((3, 2), (4, 3, 2)))
        self.assertTrue(self.table(placement, 0, (1, 2), ((3,), ()), ((4, 3), ())))
        self.assertTrue(self.table(placement, 0, (1, 2), ((3,), ()), ((4, 3, 2), ())))
        self.assertFalse(self.table(placement, 0, (1, 2), ((4, 3), ())))
        self.assertFalse(self.table(placement, 0, (1, 2), ((3,), ()), ((4,), ())))

    def test_one_wrong_cut_among_others(self):
        self.assertTrue(self.table(HEARD, 0, (1, 2), ((3,), ()), ((3, 2), ())))
        for wrong in ((), ((3,),), ((3,), (), ()), [(3,), ()], None, 3, ((3,), None), ((3,), []), ((3,), "")):
            self.assertIs(loop_holds(HEARD, 0, (1, 2), ("none", (((3,), ()), wrong))), False)

    def test_form_of_the_table(self):
        for thing in (
            ("none",), ("none", None), ("none", []), ("none", [((3,), ())]), ("none", (((3,), ()),), ()),
            ["none", (((3,), ()),)], ("loop", (((3,), ()),)), ("none", ((3,), ())), (None, ()), ("None", ()), (),
        ):
            self.assertIs(loop_holds(HEARD, 0, (1, 2), thing), False)
        self.assertIs(loop_holds(LINE, 0, (1, 2), ("none", ())), True)
        self.assertIs(loop_holds(LINE, 0, (1, 2), ("none", [])), False)

    def test_clients_in_cuts(self):
        # 3 is the client by which 0 tells 2, 4 the one by which 1 does.
        placement = ((("a",), ("b",), ("b",)), ((0, 2), (1, 2)))
        self.assertEqual(left_ways(placement, 0, (1, 2)), ((3, 2),))
        self.assertFalse(self.table(placement, 0, (1, 2), ((3, 2), (1,))))  # 1 is let out to its client
        self.assertTrue(self.table(placement, 0, (1, 2), ((3, 2), (1, 4))))
        self.assertTrue(self.table(placement, 0, (1, 2), ((3,), (1, 2, 4))))
        self.assertFalse(self.table(placement, 0, (1, 2), ((3,), (1, 4))))

    def test_no_edges_no_questions(self):
        self.assertEqual(oracle.questions(ALONE), [])


if __name__ == "__main__":
    unittest.main()
