"""Texts of placements and runs, short runs, and a bench for events that can be taken back."""

from causeloops.courses import APPLY, WRITE, Course, course_of
from causeloops.errors import BadEvent, BadLine, BadNumber, BadRun, NotEarly
from causeloops.kinds import are_names_ascending, is_below
from causeloops.needs import check_plan
from causeloops.placements import are_clients, check_placement
from causeloops.runs import course_after, verdict_of

SITE = "site"
CLIENT = "client"


def placement_text(placement):
    """The text of a placement."""
    check_placement(placement)
    sites, clients = placement
    return text_of([(SITE,) + kept for kept in sites] + [(CLIENT,) + visited for visited in clients])


def run_text(placement, plan, run):
    """The text of a run."""
    course_after(placement, plan, run)
    return text_of(run)


def text_of(rows):
    """Lines of words."""
    return "\n".join([" ".join([str(word) for word in row]) for row in rows])


def read_placement(text):
    """The placement of a text."""
    sites, clients = (), ()
    for at, line in enumerate(lines_of(text)):
        words = tuple(line.split(" "))
        numbers = tuple([number_in(word, len(sites)) for word in words[1:]])
        if words[0] == SITE and clients == () and are_names_ascending(words[1:]):
            sites = sites + (words[1:],)
        elif words[0] == CLIENT and are_clients((numbers,), len(sites)):
            clients = clients + (numbers,)
        else:
            raise BadLine(at + 1)
    return sites, clients


def read_run(placement, plan, text):
    """The run of a text."""
    check_plan(placement, plan)
    course = Course(placement, plan)
    for at, line in enumerate(lines_of(text)):
        event = event_in(course, line.split(" "))
        if not course.is_possible(event):
            raise BadLine(at + 1)
        course.do(event)
    return tuple(course.events)


def lines_of(text):
    """A list of the lines of a text, none if it is empty; raise BadLine for a value that is not a string."""
    if not isinstance(text, str):
        raise BadLine(0)
    return text.split("\n") if text != "" else []


def number_in(word, limit):
    """The number below a limit that is written so; None if there is none."""
    numbers = {str(number): number for number in range(limit)}
    return numbers.get(word)


def event_in(course, words):
    """The event that words tell, if it can be one behind those of a course; None if it cannot."""
    if len(words) != 3:
        return None
    word, one, other = words
    sites, clients = course.layout
    who = number_in(one, len(sites) + len(clients))
    if word == WRITE:
        return WRITE, who, other
    return word, who, number_in(other, len(course.updates) if word == APPLY else len(sites))


def without(placement, plan, run, at):
    """What is left of a run when the event at a position is left out."""
    course_after(placement, plan, run)
    if not is_below(at, len(run)):
        raise BadNumber(at)
    return leave_out(run, at)


def leave_out(events, at):
    """What is left of events without one of them, and without the applyings of its update if it is a write."""
    rest = events[:at] + events[at + 1:]
    if events[at][0] != WRITE:
        return rest
    number = len([event for event in events[:at] if event[0] == WRITE])
    return tuple([numbered_anew(event, number) for event in rest if event[0] != APPLY or event[2] != number])


def numbered_anew(event, number):
    """An event as it is when there is no longer an update of some number."""
    word, one, other = event
    return (word, one, other - 1) if word == APPLY and other > number else event


def is_short(placement, plan, run):
    """Whether a run is short: nothing can be left out before the last event, which alone is early."""
    course = course_after(placement, plan, run)
    return course.first_early() == len(run) - 1 and find_shorter(placement, plan, run) is None


def shortened(placement, plan, run):
    """The short run that comes of a run with an early event."""
    course_after(placement, plan, run)
    short = up_to_early(placement, plan, run)
    if short is None:
        raise NotEarly()
    shorter = find_shorter(placement, plan, short)
    while shorter is not None:
        short = shorter
        shorter = find_shorter(placement, plan, short)
    return short


def find_shorter(placement, plan, run):
    """What comes of a run by the first event before the last one that can be left out; None if none can."""
    for at in range(len(run) - 1):
        shorter = up_to_early(placement, plan, leave_out(run, at))
        if shorter is not None:
            return shorter
    return None


def up_to_early(placement, plan, events):
    """The events up to the first early one; None if they are no run, or none is early."""
    course = course_of(placement, plan, events)
    at = None if course is None else course.first_early()
    return None if at is None else events[:at + 1]


class Bench:
    """A run that is written by hand, event by event; undone has what was taken back, the last one last."""

    def __init__(self, placement, plan):
        check_plan(placement, plan)
        self.course = Course(placement, plan)
        self.undone = []

    def do(self, event):
        """Do an event that is possible."""
        if not self.course.is_possible(event):
            raise BadEvent(event)
        self.course.do(event)
        self.undone = []

    def undo(self):
        """Take back the last event; returns whether there was one."""
        events = self.run()
        if events == ():
            return False
        self.course = course_of(self.placement(), self.plan(), events[:-1])
        self.undone.append(events[-1])
        return True

    def redo(self):
        """Do again what was taken back last; returns whether there was something."""
        if self.undone == []:
            return False
        event = self.undone.pop()
        self.course.do(event)
        return True

    def change(self, plan):
        """Change the plan, if the run is one for the new plan, too."""
        check_plan(self.placement(), plan)
        course = course_of(self.placement(), plan, self.run())
        if course is None:
            raise BadRun(self.run())
        self.course = course
        self.undone = []

    def run(self):
        """The run."""
        return tuple(self.course.events)

    def plan(self):
        """The plan."""
        return self.course.counted

    def placement(self):
        """The placement."""
        return self.course.layout

    def verdict(self):
        """A certificate for the run."""
        return verdict_of(self.course)
