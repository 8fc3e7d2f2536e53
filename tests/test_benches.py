"""[13.1] Texts, [13.2] Leaving out and [13.3] Benches."""

import unittest

from causeloops.benches import (Bench, is_short, placement_text, read_placement, read_run, run_text, shortened,
                                without)
from causeloops.errors import BadEvent, BadLine, BadNumber, BadRun, NotEarly
from causeloops.needs import full_plan, least_plan
from causeloops.plans import judge_plan
from causeloops.runs import is_run, judge_run, run_holds
from tests import oracle_benches, oracle_runs
from tests.draws import drawn_cases, drawn_run, plans_of, small_placements
from tests.samples import (ALONE, EMPTY, JOINED, LINE, NAMED, THREE, Numbers, drawn_placements, many_placements,
                           strange_values, told)

PLAN = least_plan(THREE)
POOR = (((0, 1), (0, 2), (1, 0), (2, 0), (2, 1)),) + PLAN[1:]
LONG = (("write", 0, "b"), ("write", 1, "c"), ("write", 1, "b"), ("apply", 0, 2), ("write", 0, "a"), ("apply", 2, 3))
SHORT = (("write", 1, "c"), ("write", 1, "b"), ("apply", 0, 1), ("write", 0, "a"), ("apply", 2, 2))
BLIND = oracle_runs.own(JOINED)


def texts_near(text):
    """Texts that differ from one in a place: a character left out, doubled or another, a line left out or moved."""
    found = [text + "\n", "\n" + text, text + " ", " " + text, text.upper(), text.replace(" ", "  "),
             text.replace("\n", " \n"), text.replace("\n", "\n\n"), text.replace("\n", "\n "), text.replace(" ", "\t"),
             text.replace("\n", ""), text.replace("0", "00"), text.replace("1", "01"), text.replace("2", "+2")]
    for at in range(len(text)):
        found += [text[:at] + text[at + 1:], text[:at] + text[at] + text[at:], text[:at]]
        found += [text[:at] + other + text[at + 1:] for other in "01a~ \n"]
    lines = text.split("\n")
    for at in range(len(lines)):
        found += ["\n".join(lines[:at] + lines[at + 1:]), "\n".join(lines[at:] + lines[:at])]
        found += ["\n".join(lines[:at] + [lines[at]] + lines[at:])]
    return found


class PlacementTextTests(unittest.TestCase):
    def read(self, text):
        answer = told(read_placement, text)
        self.assertEqual(told(read_placement, text=text), answer)
        return answer

    def wrong(self, text, at):
        self.assertEqual(self.read(text), (BadLine, {"at": at}), text)

    def test_named(self):
        self.assertEqual(placement_text(THREE), "site a b\nsite b c\nsite a c")
        self.assertEqual(placement_text(placement=JOINED), "site a\nsite a b\nsite b\nclient 0 2")
        self.assertEqual(placement_text(ALONE), "site a\nsite\nsite b\nclient 0 1\nclient 0 1 2")
        self.assertEqual((placement_text(EMPTY), placement_text((((),), ()))), ("", "site"))
        self.assertEqual((self.read(""), self.read("site")), (EMPTY, (((),), ())))

    def test_there_and_back(self):
        for placement in many_placements():
            text = placement_text(placement)
            self.assertEqual(text, oracle_benches.placement_text(placement))
            self.assertEqual(self.read(text), placement)

    def test_no_string(self):
        for thing in strange_values():
            if type(thing) is not str:
                self.wrong(thing, 0)

    def test_an_empty_first_line(self):
        for text in ("\n", "\n\n", "\nsite a", "\nsite a\nsite b", "\nx"):
            self.wrong(text, 1)

    def test_a_line_feed_at_the_end(self):
        self.wrong("site a\n", 2)
        self.wrong("site a\nsite a\nclient 0 1\n", 4)
        self.wrong("site a\n\nsite b", 2)

    def test_blanks_and_zeros_too_many(self):
        for text in ("site ", " site", "site  a", "site a ", "site a  b", " ", "site\ta"):
            self.wrong(text, 1)
            self.wrong("site a\n" + text + "\nsite b", 2)
        for line in ("client 00 1", "client 0 01", "client 0  1", "client 0 1 ", " client 0 1", "client  0 1", "client 0 +1",
                     "client 0 -1", "client 0 1.", "client 0 1_", "client 0,1", "client 0 " + "1" * 900):
            self.wrong("site a\nsite a\n" + line, 3)

    def test_registers(self):
        self.assertEqual(self.read("site a abcdefghij b"), ((("a", "abcdefghij", "b"),), ()))
        for line in ("site b a", "site a a", "site A", "site a1", "site abcdefghijk", "site 0", "site a-b", "Site a", "sites a",
                     "site,a", "sitea", "write 0 a"):
            self.wrong(line, 1)
            self.wrong("site c\n" + line, 2)

    def test_clients_come_behind_all_sites(self):
        two = "site a\nsite b\n"
        self.assertEqual(self.read(two + "client 0 1"), ((("a",), ("b",)), ((0, 1),)))
        self.wrong(two + "client 0 1\nsite c", 4)
        self.wrong(two + "client 0 2\nsite c", 3)
        self.wrong("client 0 1\nsite a\nsite b", 1)
        self.wrong("site a\nclient 0 1\nsite b", 2)
        for line in ("client", "client 0", "client 0 0", "client 1 0", "client 0 2", "client a b", "client 0 1 1", "Client 0 1"):
            self.wrong(two + line, 3)

    def test_more_than_ten_sites(self):
        placement = ((("a",),) * 12, ((0, 2, 10, 11),))
        self.assertEqual(self.read(placement_text(placement)), placement)
        self.wrong("site a\n" * 12 + "client 10 2", 13)

    def test_texts_that_are_nearly_right(self):
        right = 0
        for placement in NAMED:
            for text in texts_near(placement_text(placement)):
                good = oracle_benches.read_placement(text)
                right += type(good) is tuple
                self.assertEqual(self.read(text), good if type(good) is tuple else (BadLine, {"at": good}), repr(text))
        self.assertGreater(right, 50)

    def test_what_comes_of_lines_one_by_one(self):
        text = placement_text(ALONE)
        lines = text.split("\n")
        for at in range(len(lines)):
            for line in ("", "x", "site a", "client 0 1", "client 0 2", "client 0 7", " ", "site z a"):
                wrong = "\n".join(lines[:at] + [line] + lines[at:])
                good = oracle_benches.read_placement(wrong)
                self.assertEqual(self.read(wrong), good if type(good) is tuple else (BadLine, {"at": good}))


class RunTextTests(unittest.TestCase):
    def read(self, placement, plan, text):
        answer = told(read_run, placement, plan, text)
        self.assertEqual(told(read_run, placement=placement, plan=plan, text=text), answer)
        return answer

    def test_named(self):
        self.assertEqual(run_text(THREE, POOR, LONG[:2]), "write 0 b\nwrite 1 c")
        self.assertEqual(run_text(placement=THREE, plan=POOR, run=SHORT[1:2] + (("apply", 0, 0),)), "write 1 b\napply 0 0")
        self.assertEqual(run_text(JOINED, BLIND, (("visit", 3, 0), ("write", 0, "a"), ("apply", 1, 0))),
                         "visit 3 0\nwrite 0 a\napply 1 0")
        self.assertEqual((run_text(THREE, PLAN, ()), self.read(THREE, PLAN, ""), self.read(EMPTY, (), "")), ("", (), ()))

    def test_there_and_back(self):
        for placement, plan, run in drawn_cases(131, 1, 20):
            text = run_text(placement, plan, run)
            self.assertEqual(text, oracle_benches.run_text(run))
            self.assertEqual(self.read(placement, plan, text), run)

    def test_no_string(self):
        for thing in strange_values():
            if type(thing) is not str:
                self.assertEqual(self.read(THREE, PLAN, thing), (BadLine, {"at": 0}))

    def test_wrong_lines(self):
        text = run_text(THREE, POOR, LONG)
        lines = text.split("\n")
        for at in range(len(lines) + 1):
            for line in ("", " ", "x", "write", "write 0", "write 0 c", "write 3 a", "write 00 a", "write 0 a ", "write  0 a",
                         " write 0 a", "write 0 a b", "write 0  a", "Write 0 a", "write 0 A", "apply 0 0", "apply 2 99",
                         "apply 0 a", "apply 00 2", "apply 0 02", "apply -1 0", "visit 3 0", "visit 0 1", "write +0 a",
                         "write 0_0 a", "apply 0 2\t", "read 0 a", "write a 0"):
                wrong = "\n".join(lines[:at] + [line] + lines[at:])
                good = oracle_benches.read_run(THREE, POOR, wrong)
                expected = tuple(good) if type(good) is list else (BadLine, {"at": good})
                self.assertEqual(self.read(THREE, POOR, wrong), expected, wrong)

    def test_an_empty_first_line_and_a_line_feed_at_the_end(self):
        for text in ("\n", "\n\n", "\nwrite 0 a"):
            self.assertEqual(self.read(THREE, PLAN, text), (BadLine, {"at": 1}))
        self.assertEqual(self.read(THREE, PLAN, "write 0 a\n"), (BadLine, {"at": 2}))

    def test_an_event_that_is_not_possible(self):
        text = run_text(THREE, POOR, SHORT)
        self.assertEqual(self.read(THREE, POOR, text), SHORT)
        self.assertEqual(self.read(THREE, PLAN, text), (BadLine, {"at": 5}))

    def test_more_than_ten_updates(self):
        run = (("write", 1, "c"),) * 12 + tuple(("apply", 2, at) for at in range(12))
        self.assertEqual(self.read(THREE, PLAN, run_text(THREE, PLAN, run)), run)
        self.assertEqual(self.read(THREE, PLAN, run_text(THREE, PLAN, run) + "\napply 2 12"), (BadLine, {"at": 25}))

    def test_texts_that_are_nearly_right(self):
        right = 0
        visits = (("write", 1, "b"), ("write", 1, "a"), ("apply", 0, 1), ("visit", 3, 0), ("apply", 2, 0), ("visit", 3, 2))
        for placement, plan, run in ((THREE, POOR, SHORT), (JOINED, least_plan(JOINED), visits)):
            for text in texts_near(run_text(placement, plan, run)):
                good = oracle_benches.read_run(placement, plan, text)
                right += type(good) is list
                expected = tuple(good) if type(good) is list else (BadLine, {"at": good})
                self.assertEqual(self.read(placement, plan, text), expected, repr(text))
        self.assertGreater(right, 30)


class WithoutTests(unittest.TestCase):
    def test_named(self):
        self.assertEqual(without(THREE, POOR, LONG, 2), (("write", 0, "b"), ("write", 1, "c"), ("write", 0, "a"), ("apply", 2, 2)))
        self.assertEqual(without(placement=THREE, plan=POOR, run=LONG, at=0), SHORT)
        self.assertEqual(without(THREE, POOR, LONG, 3), LONG[:3] + LONG[4:])
        self.assertEqual(without(THREE, POOR, LONG, 5), LONG[:5])
        self.assertEqual(without(THREE, POOR, LONG, 4), LONG[:4])

    def test_a_write_with_all_its_applyings(self):
        full = ((("a",), ("a",), ("a",)), ())
        run = (("write", 0, "a"), ("apply", 1, 0), ("write", 1, "a"), ("apply", 2, 0), ("apply", 0, 1), ("apply", 2, 1))
        self.assertEqual(without(full, least_plan(full), run, 0), (("write", 1, "a"), ("apply", 0, 0), ("apply", 2, 0)))
        self.assertEqual(without(full, least_plan(full), run, 2), (("write", 0, "a"), ("apply", 1, 0), ("apply", 2, 0)))

    def test_what_is_left_need_not_be_a_run(self):
        run = (("write", 1, "c"), ("write", 1, "c"), ("apply", 2, 0), ("apply", 2, 1))
        left = without(THREE, PLAN, run, 2)
        self.assertEqual(left, run[:2] + run[3:])
        self.assertIs(is_run(THREE, PLAN, left), False)

    def test_positions(self):
        for at in (-1, 6, 7, True, "0", None, (0,), 10 ** 39):
            self.assertEqual(told(without, THREE, POOR, LONG, at), (BadNumber, {"thing": at}))
        self.assertEqual(told(without, THREE, POOR, (), 0), (BadNumber, {"thing": 0}))

    def test_drawn(self):
        visits = 0
        for placement, plan, run in drawn_cases(132, 1, 18)[::2]:
            for at in range(len(run)):
                self.assertEqual(without(placement, plan, run, at), oracle_benches.without(run, at))
                visits += run[at][0] == "visit"
        self.assertGreater(visits, 50)


class ShortTests(unittest.TestCase):
    def check(self, placement, plan, run, answer):
        self.assertIs(is_short(placement, plan, run), answer, run)
        self.assertIs(is_short(placement=placement, plan=plan, run=run), answer, run)

    def test_named(self):
        self.check(THREE, POOR, LONG, False)
        self.check(THREE, POOR, SHORT, True)
        self.assertEqual(shortened(THREE, POOR, LONG), SHORT)
        self.assertEqual(shortened(placement=THREE, plan=POOR, run=SHORT), SHORT)
        self.check(THREE, POOR, SHORT[:-1], False)
        self.check(THREE, POOR, SHORT + (("apply", 2, 0),), False)
        self.check(THREE, POOR, (), False)

    def test_what_is_behind_the_first_early_event_is_left_off(self):
        for more in ((("write", 2, "a"),), (("apply", 2, 0), ("write", 2, "c"), ("apply", 1, 3))):
            run = SHORT + more
            self.check(THREE, POOR, run, False)
            self.assertEqual(shortened(THREE, POOR, run), SHORT)

    def test_two_early_events(self):
        run = (("write", 1, "b"), ("write", 1, "a"), ("apply", 0, 1), ("visit", 3, 0), ("visit", 3, 2), ("visit", 3, 2))
        self.assertIs(is_run(JOINED, BLIND, run), True)
        self.check(JOINED, BLIND, run, False)
        self.check(JOINED, BLIND, run[:-1], True)
        self.assertEqual(shortened(JOINED, BLIND, run), run[:-1])

    def test_the_first_event_that_can_be_left_out(self):
        """Of two ways to the same early event the later one stays, since the first event is left out first."""
        run = (("write", 1, "b"), ("write", 1, "b"), ("write", 1, "a"), ("apply", 0, 2), ("visit", 3, 0), ("visit", 3, 2))
        self.assertEqual(shortened(JOINED, BLIND, run), run[1:3] + (("apply", 0, 1),) + run[4:])
        self.assertEqual(shortened(JOINED, BLIND, run), oracle_benches.shortened(JOINED, BLIND, run))

    def test_no_early_event(self):
        for run in ((), SHORT[:-1], SHORT[:2]):
            self.assertEqual(told(shortened, THREE, POOR, run), (NotEarly, {}))
        self.assertEqual(told(shortened, THREE, PLAN, SHORT[:4] + (("apply", 2, 0), ("apply", 2, 2))), (NotEarly, {}))

    def test_drawn(self):
        found, orders = {True: 0, False: 0}, 0
        for placement, plan, run in drawn_cases(133, 1, 24):
            short = oracle_benches.shortened(placement, plan, run)
            self.check(placement, plan, run, oracle_benches.is_short(placement, plan, run))
            if short is None:
                self.assertEqual(told(shortened, placement, plan, run), (NotEarly, {}))
                continue
            self.assertEqual(shortened(placement, plan, run), short)
            self.check(placement, plan, short, True)
            self.assertEqual(judge_run(placement, plan, short)[:2], ("early", len(short) - 1))
            found[short == run] += 1
            orders += len(set(oracle_benches.all_shorter(placement, plan, run))) > 1
        self.assertGreater(found[False], 100)
        self.assertGreater(orders, 50)

    def test_runs_of_judged_plans(self):
        draw, seen = Numbers(134), 0
        for placement in small_placements()[::2]:
            for plan in plans_of(placement, draw):
                found = judge_plan(placement, plan)
                if found[0] == "wrong" and len(found[1]) <= 24:
                    short = shortened(placement, plan, found[1])
                    self.check(placement, plan, short, True)
                    self.assertEqual(short, oracle_benches.shortened(placement, plan, found[1]))
                    seen += 1
        self.assertGreater(seen, 20)

    def test_long_runs(self):
        draw = Numbers(135)
        for placement in drawn_placements(8, 136, 5, 6, 2):
            plan = oracle_runs.own(placement)
            run = drawn_run(placement, plan, draw, 24)
            answer = told(shortened, placement, plan, run)
            self.assertEqual(answer, oracle_benches.shortened(placement, plan, run) or (NotEarly, {}))


class BenchTests(unittest.TestCase):
    def test_named(self):
        desk = Bench(THREE, PLAN)
        self.assertEqual([desk.do(("write", 1, "c")), desk.undo(), desk.redo(), desk.redo(), desk.run(), desk.verdict()],
                         [None, True, True, False, (("write", 1, "c"),), ("right",)])
        self.assertEqual((desk.placement(), desk.plan()), (THREE, PLAN))

    def test_by_name(self):
        desk = Bench(plan=POOR, placement=THREE)
        for event in SHORT:
            self.assertIsNone(desk.do(event=event))
        self.assertEqual((desk.run(), desk.verdict()), (SHORT, ("early", 4, 0)))
        self.assertEqual(told(desk.change, plan=PLAN), (BadRun, {"thing": SHORT}))
        self.assertIs(desk.undo(), True)
        self.assertIsNone(desk.change(plan=full_plan(THREE)))
        self.assertEqual((desk.run(), desk.plan(), desk.verdict()), (SHORT[:-1], full_plan(THREE), ("right",)))

    def test_nothing_to_take_back(self):
        desk = Bench(THREE, PLAN)
        self.assertEqual((desk.undo(), desk.redo(), desk.run()), (False, False, ()))
        desk.do(("write", 0, "a"))
        self.assertIs(desk.redo(), False)
        self.assertEqual((desk.undo(), desk.undo(), desk.redo(), desk.redo()), (True, False, True, False))

    def test_the_last_taken_back_comes_first(self):
        desk = Bench(THREE, PLAN)
        for event in SHORT[:4]:
            desk.do(event)
        for at in (3, 2, 1, 0):
            self.assertIs(desk.undo(), True)
            self.assertEqual(desk.run(), SHORT[:at])
        for at in (1, 2, 3, 4):
            self.assertIs(desk.redo(), True)
            self.assertEqual(desk.run(), SHORT[:at])

    def test_what_forgets_what_was_taken_back(self):
        for deed, forgets in ((lambda desk: desk.do(("write", 0, "b")), True), (lambda desk: desk.change(PLAN), True),
                              (lambda desk: desk.change(full_plan(THREE)), True), (lambda desk: desk.run(), False),
                              (lambda desk: told(desk.do, ("apply", 0, 0)), False),
                              (lambda desk: told(desk.change, None), False), (lambda desk: desk.verdict(), False)):
            desk = Bench(THREE, PLAN)
            desk.do(("write", 0, "a"))
            desk.do(("write", 1, "c"))
            desk.undo()
            deed(desk)
            self.assertIs(desk.redo(), not forgets)

    def test_a_plan_for_which_it_is_no_run_changes_nothing(self):
        desk = Bench(THREE, POOR)
        for event in SHORT + (("write", 2, "a"),):
            desk.do(event)
        desk.undo()
        self.assertEqual(told(desk.change, PLAN), (BadRun, {"thing": SHORT}))
        self.assertEqual((desk.plan(), desk.run(), desk.redo()), (POOR, SHORT, True))

    def test_events_that_are_not_possible(self):
        desk = Bench(JOINED, least_plan(JOINED))
        for event in (("write", 1, "b"), ("write", 1, "a"), ("apply", 0, 1), ("visit", 3, 0)):
            desk.do(event)
        before = (desk.run(), desk.verdict())
        for event in (("visit", 3, 2), ("apply", 2, 1), ("apply", 0, 1), ("write", 0, "b"), ("write", 0, "a", 1), None,
                      ["write", 0, "a"], ("write", False, "a"), (), "write 0 a"):
            self.assertEqual(told(desk.do, event), (BadEvent, {"thing": event}))
            self.assertEqual((desk.run(), desk.verdict()), before)

    def test_drawn_deeds(self):
        draw, seen = Numbers(137), {}
        for placement in small_placements()[::2]:
            plans = plans_of(placement, draw)
            for plan in plans[:4]:
                bench, desk = Bench(placement, plan), oracle_benches.Desk(placement, plan)
                for _ in range(24):
                    self.one_deed(bench, desk, plans, draw, seen)
                    self.assertEqual(bench.run(), tuple(desk.done))
                    self.assertEqual((bench.plan(), bench.placement()), (desk.plan, placement))
                    self.assertIn(bench.verdict(), desk.state().certificates())
                    self.assertIs(run_holds(placement, desk.plan, bench.run(), bench.verdict()), True)
        for key in (("undo", True), ("undo", False), ("redo", True), ("redo", False), ("change", True), ("change", False),
                    ("do", True), ("do", False)):
            self.assertGreater(seen[key], 1, key)

    def one_deed(self, bench, desk, plans, draw, seen):
        name = ("do", "do", "do", "undo", "undo", "redo", "redo", "change")[draw.below(8)]
        if name in ("undo", "redo"):
            good = getattr(desk, name)()
            self.assertIs(getattr(bench, name)(), good)
        elif name == "change":
            plan = plans[draw.below(len(plans))]
            good = desk.change(plan)
            answer = told(bench.change, plan)
            self.assertEqual(answer, None if good else (BadRun, {"thing": tuple(desk.done)}))
        else:
            events = desk.state().events()
            early = [event for event in events if desk.state().ahead_of(event)]
            events = early if early and draw.below(3) else events
            good = bool(events) and draw.below(8) > 0
            event = events[draw.below(len(events))] if good else ("apply", 0, draw.below(3))
            good = event in desk.state().events()
            if good:
                desk.do(event)
            self.assertEqual(told(bench.do, event), None if good else (BadEvent, {"thing": event}))
        seen[name, good] = seen.get((name, good), 0) + 1


class LineTests(unittest.TestCase):
    def test_text_of_another_placement(self):
        text = run_text(JOINED, BLIND, (("visit", 3, 0),))
        self.assertEqual(told(read_run, LINE, least_plan(LINE), text), (BadLine, {"at": 1}))


if __name__ == "__main__":
    unittest.main()
