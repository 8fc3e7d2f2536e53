"""Runs: what can happen under a plan, and whether something is ahead of a cause."""

from causeloops.courses import APPLY, VISIT, course_of
from causeloops.errors import BadRun, BadUpdate
from causeloops.kinds import is_below, is_tuple_of
from causeloops.needs import check_plan
from causeloops.news import numbers_of
from causeloops.placements import check_place

EARLY = "early"
RIGHT = "right"


def is_run(placement, plan, thing):
    """Whether any value is a run for the placement and the plan."""
    check_plan(placement, plan)
    return course_of(placement, plan, thing) is not None


def is_event(placement, plan, run, thing):
    """Whether any value is an event that is possible after the run."""
    return course_after(placement, plan, run).is_possible(thing)


def possible(placement, plan, run):
    """The ascending tuple of the events other than writes that are possible after the run."""
    course = course_after(placement, plan, run)
    sites, clients = placement
    applies = [(APPLY, site, number) for site, number in course.missing()]
    visits = [(VISIT, len(sites) + at, site) for at, visited in enumerate(clients) for site in visited]
    return tuple([event for event in applies + visits if course.is_possible(event)])


def counts_after(placement, plan, run, place):
    """The counts of a place after the run."""
    course = course_after(placement, plan, run)
    check_place(placement, place)
    return course.tallies[place]


def causes(placement, plan, run, m):
    """The ascending tuple of the numbers of the causes of an update."""
    course = course_after(placement, plan, run)
    if not is_below(m, len(course.updates)):
        raise BadUpdate(m)
    return numbers_of(course.news.causes[m])


def judge_run(placement, plan, run):
    """A certificate: the first early event and an update that it should have come after, or that none is early."""
    return verdict_of(course_after(placement, plan, run))


def verdict_of(course):
    """A certificate for the run of a course."""
    at = course.first_early()
    if at is None:
        return (RIGHT,)
    return EARLY, at, numbers_of(course.ahead[at])[0]


def run_holds(placement, plan, run, thing):
    """Whether any value is a certificate."""
    course = course_after(placement, plan, run)
    at = course.first_early()
    if at is None:
        return thing == (RIGHT,)
    if not is_tuple_of(thing, 3) or not is_below(thing[1], len(run)) or not is_below(thing[2], len(course.updates)):
        return False
    return thing[:2] == (EARLY, at) and thing[2] in numbers_of(course.ahead[at])


def missing(placement, plan, run):
    """The ascending tuple of the pairs of a site and an update whose register it keeps and that it lacks."""
    return course_after(placement, plan, run).missing()


def course_after(placement, plan, run):
    """The course of a run; raise the error for the first of the values that is not as it must be."""
    check_plan(placement, plan)
    course = course_of(placement, plan, run)
    if course is None:
        raise BadRun(run)
    return course
