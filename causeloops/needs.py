"""What each place must count, and plans of what it counts."""

from causeloops.errors import BadPlan
from causeloops.graphs import all_edges, count_places
from causeloops.kinds import is_tuple_of
from causeloops.loops import LOOP, certify
from causeloops.nets import Net
from causeloops.placements import are_edges, check_place, check_placement


def needed(placement, place):
    """The ascending tuple of the edges that a place needs."""
    check_placement(placement)
    check_place(placement, place)
    return needed_edges(placement, Net(placement), place)


def needed_edges(placement, net, place):
    """The ascending tuple of the edges that a place of a valid placement needs."""
    return tuple([edge for edge in all_edges(placement) if place in edge or is_on_loop(net, place, edge)])


def is_on_loop(net, place, edge):
    """Whether there is a loop for a place and an edge that is not one of it."""
    return certify(net, place, edge)[0] == LOOP


def least_plan(placement):
    """The plan in which each place counts its needed edges alone."""
    check_placement(placement)
    net = Net(placement)
    return tuple([needed_edges(placement, net, place) for place in range(count_places(placement))])


def full_plan(placement):
    """The plan in which each place counts all edges."""
    check_placement(placement)
    return (all_edges(placement),) * count_places(placement)


def is_plan(placement, thing):
    """Whether any value is a plan for the placement."""
    check_placement(placement)
    if not is_tuple_of(thing, count_places(placement)):
        return False
    if not all([are_edges(placement, counted) for counted in thing]):
        return False
    return all([edge in thing[site] for edge in all_edges(placement) for site in edge])


def check_plan(placement, plan):
    """Raise the error for the first of the two values that is not as it must be."""
    if not is_plan(placement, plan):
        raise BadPlan(plan)


def lacking(placement, plan):
    """The ascending tuple of the pairs of a place and an edge that it needs and does not count."""
    check_plan(placement, plan)
    return lacking_pairs(placement, plan)


def lacking_pairs(placement, plan):
    """The ascending tuple of the pairs that a valid plan lacks.

    Own edges are counted in every plan, so only loops are asked for.
    """
    net = Net(placement)
    found = []
    for place, counted in enumerate(plan):
        others = [edge for edge in all_edges(placement) if edge not in counted]
        found.extend([(place, edge) for edge in others if is_on_loop(net, place, edge)])
    return tuple(found)


def is_enough(placement, plan):
    """Whether each place counts its needed edges."""
    return lacking(placement, plan) == ()


def counters(placement, plan):
    """The number of the edges that all places count together."""
    check_plan(placement, plan)
    return sum([len(counted) for counted in plan])
