"""[9.1] Changes, [9.2] News and [9.4] Changing over."""

import unittest

from causeloops.growth import changed, counts_anew, is_change, news, place_after
from causeloops.needs import is_plan, least_plan
from causeloops.placements import is_placement
from tests import oracle, oracle_growth, oracle_runs
from tests.draws import small_placements
from tests.samples import (ALONE, EMPTY, JOINED, LINE, NAMED, RING, THREE, Numbers, drawn_placements, strange_values,
                           variants)

TWO = ((("a",), ("a", "b"), ("b",), ("b", "c")), ((0, 2), (1, 3), (0, 1, 3)))
LESS = ((("b", "c"), ("b", "d"), ("c", "d"), ("a", "b")), ())
BOTH = ((("b", "d", "f"), ("a", "b", "d", "e"), ("c", "d"), ("b", "c", "e"), ("a", "d")), ())
NAMES = ("a", "b", "c", "new")
PARTS = (None, True, False, 0, 1, 2, 3, 4, -1, "a", "b", "new", "A", "", "keep", "drop", "join", "leave", (), [], (0, 1),
         [0, 1], (0, 2), (1, 0), (0, 0), (0, 3), (0, 1, 2), (0, True))


def growing_placements():
    found = list(NAMED) + [TWO, LESS]
    found += drawn_placements(6, 71, 3, 3, 0) + drawn_placements(6, 72, 3, 3, 1) + drawn_placements(3, 73, 4, 4, 1)
    return found


class ChangeTests(unittest.TestCase):
    def check(self, placement, thing, answer):
        self.assertIs(is_change(placement, thing), answer, thing)
        self.assertIs(is_change(placement=placement, thing=thing), answer, thing)

    def test_a_register_comes(self):
        for site, register in ((0, "b"), (0, "new"), (2, "a"), (1, "c"), (0, "abcdefghij")):
            self.check(JOINED, ("keep", site, register), True)
        for site, register in ((0, "a"), (1, "a"), (1, "b"), (3, "a"), (4, "a"), (-1, "b"), (True, "c"), (0, ""), (0, "A"),
                               (0, "abcdefghijk"), (0, None), (0, ("b",)), (0, 1), ("0", "b"), (0, "b ")):
            self.check(JOINED, ("keep", site, register), False)

    def test_a_register_goes(self):
        for site, register in ((0, "a"), (1, "a"), (1, "b"), (2, "b")):
            self.check(JOINED, ("drop", site, register), True)
        for site, register in ((0, "b"), (0, "new"), (3, "a"), (-1, "b"), (True, "a"), (False, "a"), (0, ("a",)), (0, 0)):
            self.check(JOINED, ("drop", site, register), False)

    def test_a_client_comes(self):
        for sites in ((0, 1), (0, 2), (1, 2), (0, 1, 2)):
            self.check(JOINED, ("join", sites), True)
        for sites in ((0,), (), (0, 0), (1, 0), (0, 3), (-1, 0), [0, 1], (0, True), (False, 1), (0, "1"), 0, None, "01",
                      (0, 1, 2, 3)):
            self.check(JOINED, ("join", sites), False)
        self.check(EMPTY, ("join", ()), False)

    def test_a_client_goes(self):
        self.check(JOINED, ("leave", 3), True)
        for client in (0, 2, 4, -1, True, "3", None, (3,)):
            self.check(JOINED, ("leave", client), False)
        self.check(LINE, ("leave", 3), False)
        for client in (4, 5, 6):
            self.check(TWO, ("leave", client), True)

    def test_words_and_lengths(self):
        for thing in (("keep", 0, "b", 1), ("keep", 0), ("keep",), ["keep", 0, "b"], ("Keep", 0, "b"), ("join", 0, 1),
                      ("join", (0, 1), 2), ("leave", 3, 3), ("leave",), ("leave", 3, "a"), ("drop", 0), ("join", "a", "b"),
                      (("keep",), 0, "b"), "keep", None, (), ("add", 0, "b"), (None, 3), (0, "b")):
            self.check(JOINED, thing, False)

    def test_variants(self):
        found = {True: 0, False: 0}
        for placement, good in ((JOINED, ("keep", 0, "b")), (JOINED, ("drop", 1, "a")), (TWO, ("join", (0, 1))),
                                (TWO, ("leave", 5))):
            for thing in variants(good, PARTS) + strange_values():
                answer = oracle_growth.is_change(placement, thing)
                self.check(placement, thing, answer)
                found[answer] += 1
        self.assertGreater(min(found.values()), 20)

    def test_changed(self):
        self.assertEqual(changed(LINE, ("keep", 2, "a")), ((("a",), ("a", "b"), ("a", "b")), ()))
        self.assertEqual(changed(placement=LINE, change=("keep", 1, "aa")), ((("a",), ("a", "aa", "b"), ("b",)), ()))
        self.assertEqual(changed(LINE, ("drop", 0, "a")), (((), ("a", "b"), ("b",)), ()))
        self.assertEqual(changed(JOINED, ("join", (1, 2))), (JOINED[0], ((0, 2), (1, 2))))
        self.assertEqual(changed(TWO, ("leave", 5)), (TWO[0], ((0, 2), (0, 1, 3))))
        self.assertEqual(changed(TWO, ("leave", 4)), (TWO[0], ((1, 3), (0, 1, 3))))

    def test_all_changes_of_many_placements(self):
        kinds = {"keep": 0, "drop": 0, "join": 0, "leave": 0}
        for placement in growing_placements():
            for change in oracle_growth.changes(placement, NAMES):
                self.check(placement, change, True)
                after = changed(placement, change)
                self.assertIs(is_placement(after), True)
                self.assertEqual(after, oracle_growth.changed(placement, change))
                kinds[change[0]] += 1
        self.assertGreater(min(kinds.values()), 10)

    def test_places_afterwards(self):
        for placement in growing_placements():
            for change in oracle_growth.changes(placement, NAMES):
                befores = oracle_growth.befores(placement, change)
                for place in range(oracle.places_of(placement)):
                    after = befores.index(place) if place in befores else None
                    self.assertEqual(place_after(placement, change, place), after)
                    self.assertEqual(place_after(placement=placement, change=change, place=place), after)

    def test_clients_that_leave_before_others(self):
        self.assertEqual([place_after(TWO, ("leave", 5), place) for place in range(7)], [0, 1, 2, 3, 4, None, 5])
        self.assertEqual([place_after(TWO, ("leave", 4), place) for place in range(7)], [0, 1, 2, 3, None, 4, 5])
        self.assertEqual([place_after(TWO, ("leave", 6), place) for place in range(7)], [0, 1, 2, 3, 4, 5, None])
        self.assertEqual([place_after(TWO, ("join", (0, 1)), place) for place in range(7)], list(range(7)))
        self.assertEqual([place_after(TWO, ("drop", 0, "a"), place) for place in range(7)], list(range(7)))


class NewsTests(unittest.TestCase):
    def test_a_loop_is_made(self):
        self.assertEqual(news(LINE, ("keep", 0, "b"))[0], (((0, 2), (1, 2), (2, 0), (2, 1)), ()))
        self.assertEqual(news(placement=LINE, change=("join", (0, 2)))[0], (((1, 2), (2, 1)), ()))
        self.assertEqual(news(LINE, ("keep", 0, "new")), (((), ()),) * 3)

    def test_a_client_that_joins_had_none_before(self):
        found = news(LINE, ("join", (0, 2)))
        self.assertEqual(len(found), 4)
        self.assertEqual(found[3], (((0, 1), (1, 0), (1, 2), (2, 1)), ()))
        self.assertEqual(news(ALONE, ("join", (1, 2)))[5], ((), ()))

    def test_a_loop_is_broken(self):
        gone = news(JOINED, ("leave", 3))
        self.assertEqual(gone, (((), ((1, 2), (2, 1))), ((), ()), ((), ((0, 1), (1, 0)))))
        lost = news(RING, ("drop", 0, "d"))
        self.assertEqual([more for more, _ in lost], [(), (), (), ()])
        self.assertTrue(all(less for _, less in lost))
        self.assertIn((0, 3), lost[0][1])

    def test_a_register_can_do_both(self):
        found = set()
        for placement, change in ((LINE, ("keep", 0, "new")), (LINE, ("keep", 0, "b")), (LESS, ("keep", 1, "c")),
                                  (BOTH, ("keep", 0, "a"))):
            rows = news(placement, change)
            self.assertEqual(rows, oracle_growth.news(placement, change))
            found.add((any(more for more, _ in rows), any(less for _, less in rows)))
        self.assertEqual(found, {(False, False), (True, False), (False, True), (True, True)})

    def test_as_in_another_reading(self):
        found = 0
        for placement in growing_placements():
            for change in oracle_growth.changes(placement, NAMES):
                told = news(placement, change)
                self.assertEqual(told, oracle_growth.news(placement, change), (placement, change))
                found += any(more or less for more, less in told)
        self.assertGreater(found, 200)

    def test_places_of_later_clients(self):
        for client in (4, 5, 6):
            self.assertEqual(news(TWO, ("leave", client)), oracle_growth.news(TWO, ("leave", client)))
            self.assertEqual(len(news(TWO, ("leave", client))), 6)


def quiet(state):
    """Let everything that waits be applied."""
    while state.missing():
        ready = [("apply", k, m) for k, m in state.missing() if state.is_possible(("apply", k, m))]
        state.do(ready[0])


def go_on(test, state, draw, length):
    """Draw events; none is early, and in the end everything can be applied."""
    for _ in range(length):
        events = state.events()
        others = [event for event in events if event[0] != "write"]
        if others and draw.below(10) < 6:
            events = others
        if events:
            state.do(events[draw.below(len(events))])
    quiet(state)
    test.assertEqual(state.certificates(), [("right",)])
    return len(state.early)


def writes_of(placement, state):
    """How often each site has written each register."""
    rows = [{} for _ in range(oracle.sites_of(placement))]
    for site, register, _ in state.updates:
        rows[site][register] = rows[site].get(register, 0) + 1
    return tuple(tuple(sorted(row.items())) for row in rows)


class CountsAnewTests(unittest.TestCase):
    def test_of_a_client_that_joins(self):
        writes = ((("a", 4),), (("a", 1), ("b", 2)), ())
        self.assertEqual(counts_anew(LINE, ("join", (0, 2)), writes)[3], (4, 1, 2, 0))
        self.assertEqual(counts_anew(placement=LINE, change=("join", (0, 2)), writes=writes)[0], (4, 1, 2, 0))

    def test_writes_of_registers_that_are_no_longer_kept(self):
        writes = ((("a", 4), ("gone", 7)), (("a", 1), ("b", 2)), (("a", 9), ("b", 3)))
        self.assertEqual(counts_anew(LINE, ("keep", 0, "new"), writes), ((4, 1), (4, 1, 2, 3), (2, 3)))
        # What a site wrote before it dropped a register counts for no edge; it does again if the register comes back.
        self.assertEqual(counts_anew(LINE, ("drop", 0, "a"), writes), ((), (2, 3), (2, 3)))
        self.assertEqual(counts_anew(LINE, ("keep", 2, "a"), writes)[0], (4, 4, 1, 3, 9, 12))
        self.assertEqual(counts_anew(LINE, ("keep", 0, "gone"), writes), ((4, 1), (4, 1, 2, 3), (2, 3)))

    def test_the_last_register_of_a_site(self):
        for writes in (((), (), ()), ((("a", 4),), (), (("b", 1),))):
            self.assertEqual(counts_anew(LINE, ("drop", 0, "a"), writes)[0], ())

    def test_as_in_another_reading(self):
        draw = Numbers(75)
        for placement in growing_placements():
            for change in oracle_growth.changes(placement, NAMES):
                names = sorted({"gone", "new", *"abcd"})
                writes = tuple(tuple((x, 1 + draw.below(9)) for x in names if draw.below(3))
                               for _ in range(oracle.sites_of(placement)))
                self.assertEqual(counts_anew(placement, change, writes),
                                 oracle_growth.counts_anew(placement, change, writes))

    def test_counts_for_the_least_plan_afterwards(self):
        for placement in growing_placements():
            for change in oracle_growth.changes(placement, NAMES):
                after = oracle_growth.changed(placement, change)
                counts = counts_anew(placement, change, ((),) * oracle.sites_of(placement))
                self.assertIs(is_plan(after, least_plan(after)), True)
                self.assertEqual(counts, tuple((0,) * len(row) for row in least_plan(after)))

    def test_no_event_is_early_afterwards(self):
        draw, events = Numbers(76), 0
        for placement in small_placements()[::2]:
            changes = oracle_growth.changes(placement, NAMES)
            for _ in range(min(4, len(changes))):
                change = changes[draw.below(len(changes))]
                before = oracle_runs.Play(placement, oracle_runs.least(placement))
                go_on(self, before, draw, 12)
                after = changed(placement, change)
                counts = counts_anew(placement, change, writes_of(placement, before))
                state = oracle_runs.Play(after, least_plan(after))
                state.counts = [dict(zip(row, line)) for row, line in zip(state.plan, counts)]
                events += go_on(self, state, draw, 14)
        self.assertGreater(events, 1000)

    def test_changes_one_after_the_other(self):
        draw = Numbers(77)
        for placement in (LINE, JOINED, THREE, TWO, RING):
            written = [{} for _ in range(oracle.sites_of(placement))]
            state = oracle_runs.Play(placement, oracle_runs.least(placement))
            for _ in range(8):
                go_on(self, state, draw, 8)
                for row, told in zip(written, writes_of(placement, state)):
                    for register, number in told:
                        row[register] = row.get(register, 0) + number
                changes = oracle_growth.changes(placement, NAMES)
                change = changes[draw.below(len(changes))]
                counts = counts_anew(placement, change, tuple(tuple(sorted(row.items())) for row in written))
                placement = changed(placement, change)
                state = oracle_runs.Play(placement, least_plan(placement))
                state.counts = [dict(zip(row, line)) for row, line in zip(state.plan, counts)]


if __name__ == "__main__":
    unittest.main()
