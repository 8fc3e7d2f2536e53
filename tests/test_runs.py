"""[5.1] Runs, [5.2] Causes, [5.3] Early events, [5.4] Certificates and [5.5] Nothing waits for ever."""

import unittest

from causeloops.needs import full_plan, least_plan
from causeloops.runs import causes, counts_after, is_event, is_run, judge_run, missing, possible, run_holds
from tests import oracle, oracle_runs
from tests.draws import all_runs, drawn_cases, drawn_run, plans_of
from tests.samples import ALONE, EMPTY, FULL, JOINED, LINE, NAMED, THREE, Numbers, drawn_placements, strange_values
from tests.samples import variants

PLAN = least_plan(THREE)
POOR = (((0, 1), (0, 2), (1, 0), (2, 0), (2, 1)),) + PLAN[1:]
TOLD = (("write", 1, "c"), ("write", 1, "b"), ("apply", 0, 1), ("write", 0, "a"))
SHOP = least_plan(JOINED)
BLIND = oracle_runs.own(JOINED)
OWNER = ((("a", "z"), ("a",)), ((0, 1),))


class IsRunTests(unittest.TestCase):
    def check(self, placement, plan, run, answer):
        self.assertIs(is_run(placement, plan, run), answer, run)
        self.assertIs(is_run(placement=placement, plan=plan, thing=run), answer, run)

    def test_without_events(self):
        for placement in NAMED:
            for plan in (least_plan(placement), full_plan(placement), oracle_runs.own(placement)):
                self.check(placement, plan, (), True)
                self.assertEqual(possible(placement, plan, ()), oracle_runs_possible(placement, plan, ()))
                self.assertEqual(missing(placement, plan, ()), ())
                self.assertEqual(judge_run(placement, plan, ()), ("right",))
        self.check(EMPTY, (), (), True)

    def test_writes(self):
        self.check(THREE, PLAN, (("write", 0, "a"),), True)
        for event in (("write", 0, "c"), ("write", 3, "a"), ("write", -1, "a"), ("write", 0, "ab"), ("write", 0, "")):
            self.check(THREE, PLAN, (event,), False)
        self.check(JOINED, SHOP, (("write", 3, "a"),), False)
        self.check(OWNER, least_plan(OWNER), (("write", 0, "z"), ("write", 0, "z")), True)

    def test_applies(self):
        run = (("write", 1, "c"), ("write", 1, "c"))
        self.check(THREE, PLAN, run + (("apply", 2, 0), ("apply", 2, 1)), True)
        self.check(THREE, PLAN, run + (("apply", 2, 1),), False)
        self.check(THREE, PLAN, run + (("apply", 0, 0),), False)
        self.check(THREE, PLAN, run + (("apply", 1, 0),), False)
        self.check(THREE, PLAN, run + (("apply", 2, 2),), False)
        self.check(THREE, PLAN, run + (("apply", 2, -1),), False)
        self.check(THREE, PLAN, (("apply", 2, 0),) + run, False)

    def test_twice_and_at_the_writers_own_site(self):
        run = (("write", 1, "c"), ("apply", 2, 0))
        self.check(THREE, PLAN, run, True)
        self.check(THREE, PLAN, run + (("apply", 2, 0),), False)
        self.check(THREE, PLAN, run + (("apply", 1, 0),), False)
        self.check(OWNER, least_plan(OWNER), (("write", 0, "z"), ("apply", 1, 0)), False)
        self.check(OWNER, least_plan(OWNER), (("write", 0, "z"), ("apply", 0, 0)), False)

    def test_a_cause_that_is_counted(self):
        self.check(THREE, PLAN, TOLD, True)
        self.check(THREE, PLAN, TOLD + (("apply", 2, 2),), False)
        self.check(THREE, POOR, TOLD + (("apply", 2, 2),), True)
        self.check(THREE, PLAN, TOLD + (("apply", 2, 0), ("apply", 2, 2)), True)

    def test_visits(self):
        run = (("write", 1, "b"), ("write", 1, "a"), ("apply", 0, 1))
        self.check(JOINED, SHOP, run + (("visit", 3, 0),), True)
        self.check(JOINED, SHOP, run + (("visit", 3, 0), ("visit", 3, 2)), False)
        self.check(JOINED, BLIND, run + (("visit", 3, 0), ("visit", 3, 2)), True)
        self.check(JOINED, SHOP, run + (("visit", 3, 0), ("apply", 2, 0), ("visit", 3, 2)), True)
        self.check(JOINED, SHOP, run + (("visit", 3, 2), ("visit", 3, 2), ("visit", 3, 0)), True)
        for event in (("visit", 3, 1), ("visit", 3, 3), ("visit", 0, 1), ("visit", 2, 3), ("visit", 4, 0), ("visit", 3, -1)):
            self.check(JOINED, SHOP, (event,), False)
        self.check(ALONE, least_plan(ALONE), (("visit", 3, 0), ("visit", 4, 1), ("visit", 4, 2)), True)
        self.check(ALONE, least_plan(ALONE), (("visit", 3, 2),), False)

    def test_a_run_goes_on_from_new_counts(self):
        for start in range(1, len(TOLD)):
            self.check(THREE, PLAN, TOLD[start:], oracle_runs.play(THREE, PLAN, TOLD[start:]) is not None)
        self.check(THREE, PLAN, TOLD[1:], False)

    def test_what_is_no_event(self):
        good = (("write", 1, "a"),)
        for event in (("write", True, "a"), ("write", 1, ("a",)), ["write", 1, "a"], ("write", 1), ("write", 1, "a", 0),
                      ("Write", 1, "a"), ("read", 1, "a"), (b"write", 1, "a"), ("apply", 0, False), ("apply", False, 0),
                      ("apply", 0, "0"), ("visit", 3, False), ("visit", 3, (0,)), "write", None, 0, (), {}, good[0] + (None,)):
            self.check(JOINED, SHOP, good + (event,), False)
        self.check(JOINED, SHOP, good + (("apply", 0, 0), ("visit", 3, 0)), True)
        self.check(JOINED, SHOP, list(good), False)
        self.check(JOINED, SHOP, good[0], False)

    def test_variants(self):
        parts = (None, True, 0, 1, 2, 3, -1, "a", "b", "c", "write", "apply", "visit", (), TOLD[0], TOLD[2], [])
        found = {True: 0, False: 0}
        for placement, plan, run in ((THREE, PLAN, TOLD), (THREE, POOR, TOLD + (("apply", 2, 2),)),
                                     (JOINED, SHOP, (("write", 1, "a"), ("apply", 0, 0), ("visit", 3, 0)))):
            for thing in variants(run, parts) + strange_values():
                answer = oracle_runs.play(placement, plan, thing) is not None
                self.check(placement, plan, thing, answer)
                found[answer] += 1
        self.assertGreater(min(found.values()), 30)

    def test_longer_runs_than_the_limits(self):
        run = (("write", 1, "c"),) * 100 + tuple(("apply", 2, at) for at in range(100))
        self.check(THREE, PLAN, run, True)
        self.check(THREE, PLAN, run + (("apply", 2, 100),), False)


def oracle_runs_possible(placement, plan, run):
    events = oracle_runs.play(placement, plan, run).events()
    return tuple(sorted(event for event in events if event[0] != "write"))


class CausesTests(unittest.TestCase):
    def test_what_the_site_knew(self):
        self.assertEqual([causes(THREE, PLAN, TOLD, at) for at in range(3)], [(), (0,), (0, 1)])
        self.assertEqual(causes(placement=THREE, plan=PLAN, run=TOLD, m=2), (0, 1))

    def test_not_before_it_is_applied(self):
        run = (("write", 0, "a"), ("write", 1, "a"), ("apply", 0, 1), ("write", 0, "a"), ("apply", 1, 0), ("write", 1, "a"))
        self.assertEqual([causes(LINE, least_plan(LINE), run, at) for at in range(4)], [(), (), (0, 1), (0, 1)])

    def test_a_visit_goes_both_ways(self):
        run = (("write", 0, "a"), ("visit", 3, 0), ("visit", 3, 2), ("write", 2, "b"),
               ("visit", 3, 0), ("write", 0, "a"), ("visit", 3, 2), ("write", 2, "b"))
        self.assertEqual([causes(JOINED, SHOP, run, at) for at in range(4)], [(), (0,), (0,), (0, 1)])
        run = run[:-1] + (("visit", 3, 0), ("visit", 3, 2)) + run[-1:]
        self.assertEqual([causes(JOINED, BLIND, run, at) for at in range(4)], [(), (0,), (0,), (0, 1, 2)])
        run = (("write", 2, "b"), ("visit", 3, 2), ("write", 0, "a"), ("visit", 3, 0), ("write", 0, "a"))
        self.assertEqual([causes(JOINED, BLIND, run, at) for at in range(3)], [(), (), (0, 1)])

    def test_a_register_of_one_site_alone(self):
        run = (("write", 0, "z"), ("visit", 2, 0), ("visit", 2, 1), ("write", 1, "a"))
        self.assertEqual(causes(OWNER, least_plan(OWNER), run, 1), (0,))
        self.assertEqual(missing(OWNER, least_plan(OWNER), run), ((0, 1),))


class EarlyTests(unittest.TestCase):
    def check(self, placement, plan, run, expected):
        """Exactly the expected certificates hold."""
        places = range(-1, 6)
        things = [("early", at, u) for at in range(-1, len(run) + 2) for u in range(-1, 7)] + [("right",)]
        things += [("early", float(at), u) for at in places for u in places]
        held = [thing for thing in things if run_holds(placement, plan, run, thing)]
        self.assertEqual(held, expected)
        self.assertIn(judge_run(placement, plan, run), expected)
        self.assertIn(judge_run(placement=placement, plan=plan, run=run), expected)

    def test_an_apply(self):
        run = TOLD + (("apply", 2, 2),)
        self.check(THREE, POOR, run, [("early", 4, 0)])
        self.check(THREE, POOR, run[:4], [("right",)])
        self.check(THREE, POOR, TOLD + (("apply", 2, 0), ("apply", 2, 2)), [("right",)])

    def test_a_visit(self):
        run = (("write", 1, "b"), ("write", 1, "a"), ("apply", 0, 1), ("visit", 3, 0), ("visit", 3, 2))
        self.check(JOINED, BLIND, run, [("early", 4, 0)])
        self.check(JOINED, BLIND, run[:4], [("right",)])
        self.check(JOINED, BLIND, run[:4] + (("apply", 2, 0), ("visit", 3, 2)), [("right",)])

    def test_a_client_that_knows_more_than_the_site(self):
        both = ((("a",), ("a",)), ((0, 1),))
        run = (("write", 0, "a"), ("visit", 2, 0), ("visit", 2, 1))
        self.check(both, oracle_runs.own(both), run, [("early", 2, 0)])
        self.assertIs(is_run(both, least_plan(both), run), False)

    def test_each_update(self):
        run = (("write", 1, "c"), ("write", 1, "c"), ("write", 1, "b"), ("write", 1, "c"), ("apply", 0, 2), ("write", 0, "a"))
        self.check(THREE, POOR, run + (("apply", 2, 4),), [("early", 6, 0), ("early", 6, 1)])
        self.check(THREE, POOR, run + (("apply", 2, 0), ("apply", 2, 4)), [("early", 7, 1)])
        self.check(THREE, POOR, run + (("apply", 2, 0), ("apply", 2, 1), ("apply", 2, 4)), [("right",)])

    def test_only_the_first_one(self):
        run = TOLD + (("write", 0, "a"), ("apply", 2, 2), ("apply", 2, 3))
        self.check(THREE, POOR, run, [("early", 5, 0)])
        self.check(THREE, POOR, run + (("apply", 2, 0),), [("early", 5, 0)])

    def test_a_cause_whose_register_is_not_kept(self):
        run = (("write", 1, "b"), ("apply", 0, 0), ("write", 0, "a"), ("apply", 2, 1))
        self.check(THREE, PLAN, run, [("right",)])

    def test_causes_of_causes(self):
        """The site 2 hears of the update 0 by way of 0, 3 and again 3: all in one cause's past."""
        ring = ((("a", "d"), ("a", "b"), ("b", "c"), ("c", "d")), ())
        plan = oracle_runs.own(ring)
        run = (("write", 1, "b"), ("write", 1, "a"), ("apply", 0, 1), ("write", 0, "d"), ("apply", 3, 2), ("write", 3, "c"))
        self.check(ring, plan, run + (("apply", 2, 3),), [("early", 6, 0)])
        self.assertEqual(causes(ring, plan, run, 3), (0, 1, 2))

    def test_things_that_are_no_certificates(self):
        early, right = TOLD + (("apply", 2, 2),), TOLD
        for thing in strange_values() + [("right", 0), ["right"], "right", ("early", 4, 0)]:
            self.assertIs(run_holds(THREE, POOR, right, thing), False)
        things = strange_values() + variants(("early", 4, 0), (None, False, True, "4", 4, 1, (), [4], "early", "right"))
        for thing in things + [("right",)]:
            good = type(thing) is tuple and thing == ("early", 4, 0) and list(map(type, thing)) == [str, int, int]
            self.assertIs(run_holds(THREE, POOR, early, thing), good, thing)
            self.assertIs(run_holds(placement=THREE, plan=POOR, run=early, thing=thing), good, thing)

    def test_bools_are_no_positions(self):
        both = ((("a",), ("a",)), ((0, 1),))
        run = (("write", 0, "a"), ("visit", 2, 0), ("write", 0, "a"), ("visit", 2, 1))
        plan = oracle_runs.own(both)
        self.assertIs(run_holds(both, plan, run, ("early", 3, 0)), True)
        self.assertIs(run_holds(both, plan, run, ("early", 3, False)), False)
        self.assertIs(run_holds(both, plan, run[:2] + (("visit", 2, 1),), ("early", True, 0)), False)


class DrawnTests(unittest.TestCase):
    def test_all_that_is_told_of_a_run(self):
        kinds = {"right": 0, "early": 0}
        numbers = Numbers(71)
        for placement, plan, run in drawn_cases(72, 1, 24):
            self.check(placement, plan, run, numbers)
            kinds[judge_run(placement, plan, run)[0]] += 1
        self.assertGreater(min(kinds.values()), 100)

    def check(self, placement, plan, run, numbers):
        asked = (placement, plan, run)
        state = oracle_runs.play(*asked)
        self.assertIs(is_run(*asked), True, asked)
        self.assertEqual(possible(*asked), tuple(sorted(e for e in state.events() if e[0] != "write")), asked)
        self.assertEqual(possible(placement=placement, plan=plan, run=run), possible(*asked))
        for place, table in enumerate(state.counts):
            self.assertEqual(counts_after(*asked, place), oracle_runs.in_order(plan, place, table), asked)
            self.assertEqual(counts_after(placement=placement, plan=plan, run=run, place=place), counts_after(*asked, place))
        for m, known in enumerate(state.causes):
            self.assertEqual(causes(*asked, m), tuple(sorted(known)), asked)
        self.assertEqual(missing(*asked), state.missing(), asked)
        self.assertEqual(missing(placement=placement, plan=plan, run=run), state.missing())
        self.check_certificates(asked, state)
        for event in drawn_events(placement, len(state.updates), numbers):
            self.assertIs(is_event(*asked, event), state.is_possible(event), (asked, event))
        self.assertIs(is_event(placement=placement, plan=plan, run=run, thing=event), state.is_possible(event))
        self.assertIs(is_run(placement, plan, run + (event,)), state.is_possible(event))

    def check_certificates(self, asked, state):
        right = state.certificates()
        self.assertIn(judge_run(*asked), right, asked)
        self.assertEqual(judge_run(*asked), judge_run(*asked))
        things = [("right",)] + [("early", p, u) for p in range(len(asked[2])) for u in range(len(state.updates))][::2]
        for thing in things + right:
            self.assertIs(run_holds(*asked, thing), thing in right, (asked, thing))

    def test_nothing_waits_for_ever(self):
        """[5.5], behind each beginning of each run."""
        for placement, plan, run in drawn_cases(73, 1, 16):
            for length in range(len(run) + 1):
                self.check_waiting(placement, plan, run[:length])

    def check_waiting(self, placement, plan, run):
        can, late = possible(placement, plan, run), missing(placement, plan, run)
        for site in {k for k, _ in late}:
            first = min(m for k, m in late if k == site)
            self.assertIn(("apply", site, first), can, (placement, plan, run))
        if not late:
            sites = oracle.sites_of(placement)
            visits = tuple(("visit", sites + at, s) for at, row in enumerate(placement[1]) for s in row)
            self.assertEqual(can, visits, (placement, plan, run))

    def test_enough_is_never_early(self):
        """Runs that do what they can as soon as they can, and such as let much wait."""
        numbers = Numbers(74)
        for placement in drawn_placements(10, 75, 4, 5, 1) + drawn_placements(5, 76, 5, 6, 1) + list(NAMED):
            for plan in (least_plan(placement), full_plan(placement)):
                for _ in range(3):
                    run = drawn_run(placement, plan, numbers, 60)
                    self.assertEqual(judge_run(placement, plan, run), ("right",))

    def test_all_short_runs(self):
        """Each run of a triangle and of a joined line: early ones are there exactly if the plan is not enough."""
        for placement, plan in ((THREE, PLAN), (THREE, POOR), (JOINED, SHOP), (JOINED, BLIND)):
            kinds = {"right": 0, "early": 0}
            for run, state in all_runs(placement, plan, 5, 3):
                if len(run) == 5:
                    thing = judge_run(placement, plan, run)
                    self.assertIn(thing, state.certificates())
                    kinds[thing[0]] += 1
            self.assertGreater(kinds["right"], 1000)
            self.assertEqual(kinds["early"] > 0, plan in (POOR, BLIND))

    def test_longest_runs(self):
        numbers = Numbers(77)
        for placement in drawn_placements(3, 78, 6, 12, 1):
            for plan in plans_of(placement, numbers)[:4]:
                run = drawn_run(placement, plan, numbers, 60)
                self.assertEqual(len(run), 60)
                self.check(placement, plan, run, numbers)

    def test_clients_that_visit_all(self):
        numbers = Numbers(79)
        for sites in (FULL[0], (("a", "b"), ("b",), ("a",))):
            placement = (sites, ((0, 1, 2), (0, 1), (1, 2)))
            for plan in plans_of(placement, numbers):
                for _ in range(5):
                    self.check(placement, plan, drawn_run(placement, plan, numbers, 30), numbers)


def drawn_events(placement, many, numbers):
    """Some events, possible or not."""
    places, words = oracle.places_of(placement) + 1, ("write", "apply", "visit")
    found = [(words[numbers.below(3)], numbers.below(places), numbers.below(many + 2)) for _ in range(6)]
    found += [("write", numbers.below(places), "abcdef"[numbers.below(6)]) for _ in range(2)]
    return found + [("apply", k, m) for k in range(min(places, 3)) for m in range(min(many, 4))]


if __name__ == "__main__":
    unittest.main()
