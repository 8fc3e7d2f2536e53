"""Plans in every run: they are right, or there is a run in which something is ahead of a cause."""

from causeloops.courses import Course, course_of
from causeloops.errors import BadLoop, IsCounted
from causeloops.graphs import is_client, kept_at, shared_by
from causeloops.kinds import is_tuple_of
from causeloops.loops import certify, check_question, is_loop
from causeloops.needs import check_plan, is_enough, lacking_pairs
from causeloops.nets import Net
from causeloops.runs import RIGHT

WRONG = "wrong"


def judge_plan(placement, plan):
    """A certificate: that the plan is enough, or a run for it with an early event."""
    check_plan(placement, plan)
    pairs = lacking_pairs(placement, plan)
    if pairs == ():
        return (RIGHT,)
    place, edge = pairs[0]
    _, left, right = certify(Net(placement), place, edge)
    return WRONG, late_run(placement, plan, place, left, right)


def plan_holds(placement, plan, thing):
    """Whether any value is a certificate."""
    check_plan(placement, plan)
    if is_tuple_of(thing, 2) and thing[0] == WRONG:
        course = course_of(placement, plan, thing[1])
        return course is not None and course.first_early() is not None
    return thing == (RIGHT,) and is_enough(placement, plan)


def is_right(placement, plan):
    """Whether no run for the plan has an early event."""
    return is_enough(placement, plan)


def run_from_loop(placement, plan, place, edge, loop):
    """A run for a plan that lacks an edge, along a loop for it; its last event alone is early."""
    check_plan(placement, plan)
    check_question(placement, place, edge)
    if edge in plan[place]:
        raise IsCounted()
    if not is_tuple_of(loop, 2) or not is_loop(Net(placement), place, edge, loop):
        raise BadLoop(loop)
    left, right = loop
    return late_run(placement, plan, place, left, right)


def late_run(placement, plan, place, left, right):
    """The run along a valid loop: news of an update gets around it before the update itself."""
    course = Course(placement, plan)
    start, goal = right[0], left[-1]
    write_between(course, start, goal, left[:-1])
    go_right(course, right + (place,), left)
    go_left(course, (place,) + left)
    return tuple(course.events)


def go_right(course, way, left):
    """Let news go along a way by registers of which the sites of left hear nothing directly."""
    for one, other in zip(way, way[1:]):
        if is_meeting(course, one, other):
            meet(course, one, other)
        else:
            # The last site of left may keep the register of the first step: it is late there, like the update.
            write_between(course, one, other, left[:-1] if one == way[0] else left)
            catch_up(course, other)


def go_left(course, way):
    """Let news go along a way until the last site of it applies a part of it, or is visited."""
    goal = way[-1]
    for one, other in zip(way, way[1:]):
        if is_meeting(course, one, other):
            meet(course, one, other, goal)
            continue
        register = write_between(course, one, other, ())
        if register in kept_at(course.layout, goal):
            # It need not be the last step: the first news that the goal can apply is early.
            course.apply(goal, len(course.updates) - 1)
            return
        catch_up(course, other)


def is_meeting(course, one, other):
    """Whether the step between two places is a visit."""
    return is_client(course.layout, one) or is_client(course.layout, other)


def meet(course, one, other, goal=None):
    """Let a client visit a site, which first catches up unless it is the goal."""
    site, client = min(one, other), max(one, other)
    if site != goal:
        catch_up(course, site)
    course.visit(client, site)


def write_between(course, one, other, hidden):
    """Let a site write a register that it shares with another one and that none of the hidden places keeps."""
    both = shared_by(course.layout, one, other)
    free = [name for name in both if not any([name in kept_at(course.layout, place) for place in hidden])]
    course.write(one, free[0])
    return free[0]


def catch_up(course, site):
    """Let a site apply all updates that it lacks, in order: each one is then ready and not early."""
    late = course.news.missing_at(site)
    for number in late:
        course.apply(site, number)
