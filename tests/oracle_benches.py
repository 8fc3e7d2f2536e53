"""A second reading of Part 13: texts by patterns, leaving out by marking updates, a bench with two lists of events.

Nothing here uses the package, so that the tests compare two independent answers.
"""

import re

from tests import oracle_runs
from tests.wrong import is_valid

NUMBER = "(?:0|[1-9][0-9]*)"


def placement_text(placement):
    lines = [" ".join(["site", *row]) for row in placement[0]]
    return "\n".join(lines + [" ".join(["client", *map(str, row)]) for row in placement[1]])


def run_text(run):
    return "\n".join(" ".join(map(str, event)) for event in run)


def read_placement(text):
    """The placement, or the number of the first wrong line."""
    if type(text) is not str:
        return 0
    if not text:
        return (), ()
    placement = (), ()
    for at, line in enumerate(text.split("\n"), 1):
        words = line.split(" ")
        if re.fullmatch("site(?: [a-z]{1,10})*", line) and not placement[1]:
            placement = placement[0] + (tuple(words[1:]),), ()
        elif re.fullmatch(f"client(?: {NUMBER})+", line):
            placement = placement[0], placement[1] + (tuple(int(word) for word in words[1:]),)
        else:
            return at
        if not is_valid(placement):
            return at
    return placement


def read_run(placement, plan, text):
    """The run as a list, or the number of the first wrong line."""
    if type(text) is not str:
        return 0
    run = []
    for at, line in enumerate(text.split("\n") if text else [], 1):
        if not re.fullmatch(f"write {NUMBER} [a-z]+|(?:apply|visit) {NUMBER} {NUMBER}", line):
            return at
        word, one, other = line.split(" ")
        run.append((word, int(one), other if word == "write" else int(other)))
        if oracle_runs.play(placement, plan, tuple(run)) is None:
            return at
    return run


def without(run, at):
    """[13.2], with the update of each write marked by the write's position."""
    writes = [position for position, event in enumerate(run) if event[0] == "write"]
    left = [(position, event) for position, event in enumerate(run) if position != at
            and not (event[0] == "apply" and writes[event[2]] == at)]
    still = [position for position, event in left if event[0] == "write"]
    return tuple(event[:2] + (still.index(writes[event[2]]),) if event[0] == "apply" else event for _, event in left)


def first_early(placement, plan, run):
    """The position of the first early event; None if there is none, or if it is no run."""
    state = oracle_runs.play(placement, plan, run)
    found = [at for at, lacked in enumerate(state.early) if lacked] if state else []
    return found[0] if found else None


def all_shorter(placement, plan, run):
    """What is left, cut off behind the first early event, for each event before the last that can be left out."""
    rests = [without(run, at) for at in range(len(run) - 1)]
    early = [first_early(placement, plan, rest) for rest in rests]
    return [rest[:at + 1] for rest, at in zip(rests, early) if at is not None]


def is_short(placement, plan, run):
    state = oracle_runs.play(placement, plan, run)
    return [bool(lacked) for lacked in state.early] == [False] * (len(run) - 1) + [True] and not all_shorter(
        placement, plan, run)


def shortened(placement, plan, run):
    at = first_early(placement, plan, run)
    if at is None:
        return None
    run = run[:at + 1]
    while all_shorter(placement, plan, run):
        run = all_shorter(placement, plan, run)[0]
    return run


class Desk:
    """A bench: the events that are done and those that were taken back."""

    def __init__(self, placement, plan):
        self.placement, self.plan = placement, plan
        self.done, self.back = [], []

    def do(self, event):
        self.done, self.back = self.done + [event], []

    def undo(self):
        if self.done:
            self.back.append(self.done.pop())
            return True
        return False

    def redo(self):
        if self.back:
            self.done.append(self.back.pop())
            return True
        return False

    def change(self, plan):
        if oracle_runs.play(self.placement, plan, tuple(self.done)) is None:
            return False
        self.plan, self.back = plan, []
        return True

    def state(self):
        return oracle_runs.play(self.placement, self.plan, tuple(self.done))
