"""[6.1] Right plans, [6.2] Certificates and [6.3] Runs from loops."""

import unittest

from causeloops.errors import BadLoop, IsCounted, OwnEdge
from causeloops.needs import full_plan, is_enough, lacking, least_plan
from causeloops.plans import is_right, judge_plan, plan_holds, run_from_loop
from causeloops.runs import is_run, judge_run
from tests import oracle, oracle_runs
from tests.draws import all_runs, between, drawn_run, plans_of, small_placements, without_edges
from tests.samples import (ALONE, EMPTY, FULL, HEARD, JOINED, LINE, NAMED, RING, STAR, THREE, Numbers,
                           drawn_placements, strange_values, told, variants)

PLAN = least_plan(THREE)
POOR = (((0, 1), (0, 2), (1, 0), (2, 0), (2, 1)),) + PLAN[1:]
BLIND = oracle_runs.own(JOINED)
EARLY = (("write", 1, "c"), ("write", 1, "b"), ("apply", 0, 1), ("write", 0, "a"), ("apply", 2, 2))


def with_all_loops(placement, plan):
    """Each pair that a plan lacks, with each loop for it."""
    return [(place, edge, loop) for place, edge in oracle_runs.lacking(placement, plan)
            for loop in oracle.all_loops(placement, place, edge)]


class JudgePlanTests(unittest.TestCase):
    def check(self, placement, plan):
        enough = not oracle_runs.lacking(placement, plan)
        self.assertIs(is_right(placement, plan), enough)
        self.assertIs(is_right(placement=placement, plan=plan), enough)
        self.assertIs(is_enough(placement, plan), enough)
        thing = judge_plan(placement, plan)
        self.assertEqual(judge_plan(placement=placement, plan=plan), thing)
        self.assertIs(plan_holds(placement, plan, thing), True)
        self.assertIs(plan_holds(placement=placement, plan=plan, thing=thing), True)
        self.assertIs(plan_holds(placement, plan, ("right",)), enough)
        if enough:
            self.assertEqual(thing, ("right",))
        else:
            self.assertEqual((len(thing), thing[0]), (2, "wrong"))
            state = oracle_runs.play(placement, plan, thing[1])
            self.assertTrue(any(state.early), (placement, plan, thing))
        return enough

    def test_named(self):
        for placement in NAMED:
            self.assertTrue(self.check(placement, least_plan(placement)))
            self.assertTrue(self.check(placement, full_plan(placement)))
        for placement in (LINE, STAR, ALONE, EMPTY):
            self.assertTrue(self.check(placement, oracle_runs.own(placement)))
        for placement in (JOINED, THREE, RING, FULL, HEARD):
            self.assertFalse(self.check(placement, oracle_runs.own(placement)))

    def test_one_edge_left_out_at_each_place(self):
        """The least plan is least: without any edge that is not a place's own it is wrong in some run."""
        for placement in (JOINED, THREE, RING, FULL, HEARD) + tuple(drawn_placements(6, 81, 4, 5, 1)):
            for plan in (least_plan(placement), full_plan(placement)):
                for place, edge in [(place, edge) for place, row in enumerate(plan) for edge in row]:
                    if place not in edge:
                        needs = edge in oracle_runs.needed(placement, place)
                        self.assertIs(self.check(placement, without_edges(placement, plan, [(place, edge)])), not needs)

    def test_only_a_client_counts_too_little(self):
        plan = full_plan(JOINED)[:3]
        for at in range(4):
            row = full_plan(JOINED)[3]
            self.assertFalse(self.check(JOINED, plan + (row[:at] + row[at + 1:],)))
        self.assertFalse(self.check(JOINED, plan + ((),)))

    def test_drawn_plans(self):
        numbers = Numbers(82)
        found = {True: 0, False: 0}
        for placement in small_placements():
            for plan in plans_of(placement, numbers):
                found[self.check(placement, plan)] += 1
        self.assertGreater(min(found.values()), 100)

    def test_enough_plans_are_right_in_drawn_runs(self):
        numbers = Numbers(83)
        for placement in small_placements():
            for plan in plans_of(placement, numbers):
                if is_right(placement, plan):
                    run = drawn_run(placement, plan, numbers, 20)
                    self.assertEqual(judge_run(placement, plan, run), ("right",))
                    self.assertIs(plan_holds(placement, plan, ("wrong", run)), False)

    def test_enough_plans_are_right_in_all_short_runs(self):
        both = ((("a",), ("a",)), ((0, 1),))
        for placement in (both, LINE):
            for plan in (least_plan(placement), full_plan(placement)):
                for run, _ in all_runs(placement, plan, 5, 3):
                    self.assertIs(plan_holds(placement, plan, ("wrong", run)), False)
        self.assertEqual(judge_plan(both, oracle_runs.own(both))[0], "wrong")


class PlanHoldsTests(unittest.TestCase):
    def test_any_run_with_an_early_event(self):
        self.assertIs(plan_holds(THREE, POOR, ("wrong", EARLY)), True)
        self.assertIs(plan_holds(THREE, POOR, ("wrong", EARLY + (("apply", 2, 0),))), True)
        self.assertIs(plan_holds(THREE, POOR, ("wrong", (("write", 2, "c"),) + EARLY)), False)
        self.assertIs(plan_holds(THREE, POOR, ("wrong", EARLY + (("write", 0, "b"),))), True)

    def test_no_run_or_no_early_event(self):
        self.assertIs(plan_holds(THREE, POOR, ("wrong", EARLY[:4])), False)
        self.assertIs(plan_holds(THREE, POOR, ("wrong", ())), False)
        self.assertIs(plan_holds(THREE, PLAN, ("wrong", EARLY)), False)
        self.assertIs(plan_holds(THREE, POOR, ("wrong", list(EARLY))), False)
        self.assertIs(plan_holds(THREE, POOR, ["wrong", EARLY]), False)
        self.assertIs(plan_holds(THREE, POOR, ("wrong", EARLY, ())), False)
        self.assertIs(plan_holds(THREE, POOR, ("right", EARLY)), False)

    def test_right(self):
        self.assertIs(plan_holds(THREE, PLAN, ("right",)), True)
        self.assertIs(plan_holds(THREE, POOR, ("right",)), False)
        for thing in (["right"], "right", ("right", ()), ("right", None), ("Right",), (("right",),)):
            self.assertIs(plan_holds(THREE, PLAN, thing), False)

    def test_strange_values_and_variants(self):
        parts = (None, True, 0, 2, "a", "right", "wrong", (), [], EARLY[0], EARLY[4], "apply", list(EARLY))
        found = {True: 0, False: 0}
        for thing in strange_values() + variants(("wrong", EARLY), parts):
            self.assertIs(plan_holds(THREE, PLAN, thing), False)
            run = thing[1] if type(thing) is tuple and len(thing) == 2 and thing[0] == "wrong" else None
            state = oracle_runs.play(THREE, POOR, run)
            answer = state is not None and any(state.early)
            self.assertIs(plan_holds(THREE, POOR, thing), answer, thing)
            found[answer] += 1
        self.assertGreater(min(found.values()), 10)


class RunFromLoopTests(unittest.TestCase):
    def check(self, placement, plan, place, edge, loop):
        """All that [6.3] says."""
        run = run_from_loop(placement, plan, place, edge, loop)
        asked = (placement, plan, place, edge, loop, run)
        self.assertEqual(run_from_loop(loop=loop, edge=edge, place=place, plan=plan, placement=placement), run)
        state = oracle_runs.play(placement, plan, run)
        self.assertIsNotNone(state, asked)
        self.assertEqual([at for at, lacked in enumerate(state.early) if lacked], [len(run) - 1], asked)
        ring = (place,) + loop[0] + loop[1]
        self.assertLessEqual(len(run), len(ring) * (len(ring) + 1), asked)
        writes = [event for event in run if event[0] == "write"]
        self.assertLessEqual(len(writes), 2 * len(ring), asked)
        steps = [(ring[at - 1], ring[at]) for at in range(len(ring))]
        registers = set().union(*[oracle.kept(placement, one) & oracle.kept(placement, other) for one, other in steps])
        self.assertTrue({event[2] for event in writes} <= registers, asked)
        self.assertEqual(judge_run(placement, plan, run)[:2], ("early", len(run) - 1), asked)

    def test_triangle(self):
        self.check(THREE, POOR, 0, (1, 2), ((2,), (1,)))

    def test_a_client_on_the_left_and_on_the_right(self):
        self.check(JOINED, BLIND, 0, (1, 2), ((3, 2), (1,)))
        self.check(JOINED, BLIND, 0, (2, 1), ((1,), (2, 3)))
        self.check(JOINED, BLIND, 2, (0, 1), ((1,), (0, 3)))
        self.check(JOINED, BLIND, 2, (1, 0), ((3, 0), (1,)))

    def test_the_place_is_a_client(self):
        for edge, loop in (((0, 1), ((2, 1), (0,))), ((1, 2), ((2,), (1, 0))), ((2, 1), ((0, 1), (2,)))):
            self.check(JOINED, BLIND, 3, edge, loop)
        both = ((("a",), ("a",)), ((0, 1),))
        self.check(both, oracle_runs.own(both), 2, (0, 1), ((1,), (0,)))

    def test_each_loop_of_many_placements(self):
        """All plans of some placements: for each pair that is lacking, each loop."""
        numbers = Numbers(84)
        found = 0
        for placement in small_placements():
            for plan in plans_of(placement, numbers):
                for place, edge, loop in with_all_loops(placement, plan):
                    self.check(placement, plan, place, edge, loop)
                    found += 1
        self.assertGreater(found, 2000)

    def test_only_one_edge_is_lacking(self):
        """All other edges are counted everywhere, so that as much as possible has to wait."""
        found = 0
        for placement in NAMED + tuple(drawn_placements(6, 85, 4, 4, 1)) + tuple(drawn_placements(3, 86, 5, 6, 0)):
            full = full_plan(placement)
            for place, edge in lacking(placement, oracle_runs.own(placement)):
                plan = without_edges(placement, full, [(place, edge)])
                for loop in oracle.all_loops(placement, place, edge):
                    self.check(placement, plan, place, edge, loop)
                    found += 1
        self.assertGreater(found, 500)

    def test_goals_that_keep_registers_of_the_way(self):
        """The end of the edge keeps all registers of the left way: the first news that it can apply is early."""
        sites = (("a", "e"), ("c", "e", "f"), ("a", "b", "c", "f"), ("b", "c"), ("a", "b"))
        for clients in ((), ((0, 3),), ((1, 4), (0, 2))):
            placement = (sites, clients)
            for plan in (oracle_runs.own(placement), between(placement, oracle_runs.own(placement),
                                                             full_plan(placement), 6, Numbers(87))):
                for place, edge, loop in with_all_loops(placement, plan)[::5]:
                    self.check(placement, plan, place, edge, loop)

    def test_longest_loops(self):
        ring = tuple(tuple(sorted(("abcdef"[at], "abcdef"[(at + 1) % 6]))) for at in range(6))
        for placement in ((ring, ()), (ring, ((0, 3),)), ((("a", "b"),) * 3, ((0, 1), (1, 2), (0, 1, 2)))):
            plan = oracle_runs.own(placement)
            for place, edge, loop in with_all_loops(placement, plan):
                self.check(placement, plan, place, edge, loop)

    def test_errors(self):
        loop, own, known = ((2,), (1,)), {"edge": (0, 1)}, (IsCounted, {})
        self.assertEqual(told(run_from_loop, THREE, POOR, 0, (0, 1), loop), (OwnEdge, own))
        self.assertEqual(told(run_from_loop, THREE, POOR, 0, (0, 1), None), (OwnEdge, own))
        self.assertEqual(told(run_from_loop, THREE, PLAN, 0, (1, 2), loop), known)
        self.assertEqual(told(run_from_loop, THREE, PLAN, 0, (1, 2), "x"), known)
        for thing in (((1,), (2,)), ((2,), (1,), ()), [(2,), (1,)], ((2,),), ("loop", (2,), (1,)), ((2,), [1]), None):
            self.assertEqual(told(run_from_loop, THREE, POOR, 0, (1, 2), thing), (BadLoop, {"thing": thing}))

    def test_an_edge_that_nobody_needs(self):
        for loop in (((1, 2), (1,)), ((2,), (1,)), ((), ()), ((1,), (2,)), None):
            self.assertEqual(told(run_from_loop, LINE, least_plan(LINE), 0, (1, 2), loop), (BadLoop, {"thing": loop}))
        self.assertEqual(told(run_from_loop, LINE, full_plan(LINE), 0, (1, 2), None), (IsCounted, {}))

    def test_what_is_no_loop(self):
        parts = (None, True, 0, 1, 2, 3, -1, "a", "loop", (), [], (1,), (2,), [2])
        for placement, plan, place, edge, loop in ((THREE, POOR, 0, (1, 2), ((2,), (1,))),
                                                   (JOINED, BLIND, 0, (1, 2), ((3, 2), (1,)))):
            for thing in strange_values() + variants(loop, parts):
                pair = type(thing) is tuple and len(thing) == 2
                if pair and oracle.is_loop(placement, place, edge, *thing):
                    self.assertIs(is_run(placement, plan, told(run_from_loop, placement, plan, place, edge, thing)), True)
                else:
                    self.assertEqual(told(run_from_loop, placement, plan, place, edge, thing), (BadLoop, {"thing": thing}))


if __name__ == "__main__":
    unittest.main()
