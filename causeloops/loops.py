"""Loops: whether a place must count an edge that is not its own, with certificates both ways."""

from causeloops.errors import OwnEdge
from causeloops.kinds import are_below, are_below_ascending, is_tuple_of
from causeloops.nets import Net
from causeloops.placements import check_edge, check_place, check_placement

LOOP = "loop"
NONE = "none"


def judge_loop(placement, place, edge):
    """A certificate: a loop, or a table of cuts that shows that there is none."""
    check_question(placement, place, edge)
    return certify(Net(placement), place, edge)


def certify(net, place, edge):
    """A certificate for a place and an edge that is not one of it, in a net."""
    cuts = []
    for way in find_left_ways(net, place, edge):
        hidden = hidden_bits(net, edge, way)
        if not is_first_open(net, edge, hidden):
            cuts.append((way, ()))
            continue
        origins = spread(net, edge, way, hidden)
        if place in origins:
            return LOOP, way, trace_back(origins, place)
        cuts.append((way, tuple(sorted(origins))))
    return NONE, tuple(cuts)


def has_loop(placement, place, edge):
    """Whether there is a loop."""
    return judge_loop(placement, place, edge)[0] == LOOP


def loop_holds(placement, place, edge, thing):
    """Whether any value is a certificate."""
    check_question(placement, place, edge)
    net = Net(placement)
    if is_tuple_of(thing, 3) and thing[0] == LOOP:
        return is_loop(net, place, edge, thing[1:])
    if is_tuple_of(thing, 2) and thing[0] == NONE:
        return is_table(net, place, edge, thing[1])
    return False


def left_ways(placement, place, edge):
    """The ascending tuple of the left ways."""
    check_question(placement, place, edge)
    return find_left_ways(Net(placement), place, edge)


def check_question(placement, place, edge):
    """Raise the error for the first of the values that is not as it must be."""
    check_placement(placement)
    check_place(placement, place)
    check_edge(placement, edge)
    if place in edge:
        raise OwnEdge(edge)


def find_left_ways(net, place, edge):
    """The ascending tuple of the left ways in a net."""
    start, goal = edge
    begun = [(other,) for other in net.near[place] if other != start]
    found = []
    while begun:
        way = begun.pop()
        if way[-1] == goal:
            found.append(way)
        else:
            passed = (place, start) + way
            begun.extend([way + (other,) for other in net.near[way[-1]] if other not in passed])
    return tuple(sorted(found))


def hidden_bits(net, edge, way):
    """A list with, for each place, the bits of the registers that no step from there may go by."""
    start, goal = edge
    hidden = [net.bits_of(way)] * len(net.bits)
    hidden[start] = net.bits_of([place for place in way if place != goal])
    return hidden


def is_first_open(net, edge, hidden):
    """Whether the two sites of the edge share a register as (a) of loops requires."""
    start, goal = edge
    return net.passes(start, goal, hidden[start])


def spread(net, edge, way, hidden):
    """A dict with the places that news of the edge can reach beside a way: from where it gets to each one."""
    start, _ = edge
    origins = {start: start}
    reached = [start]
    at = 0
    while at < len(reached):
        one = reached[at]
        at += 1
        for other in net.near[one]:
            if other not in origins and other not in way and net.passes(one, other, hidden[one]):
                origins[other] = one
                reached.append(other)
    return origins


def trace_back(origins, place):
    """The places by which news came to a place, in order, without this place."""
    passed = []
    while origins[place] != place:
        place = origins[place]
        passed.append(place)
    return tuple(passed[::-1])


def is_loop(net, place, edge, pair):
    """Whether a pair of any values is a loop."""
    left, right = pair
    start, goal = edge
    count = len(net.near)
    if not are_below(left, count) or not are_below(right, count):
        return False
    if left[-1:] != (goal,) or right[:1] != (start,):
        return False
    ring = (place,) + left + right
    if len(set(ring)) != len(ring) or not has_steps(net, ring + (place,)):
        return False
    hidden = hidden_bits(net, edge, left)
    back = right + (place,)
    if not is_first_open(net, edge, hidden):
        return False
    return all([net.passes(one, other, hidden[one]) for one, other in zip(back, back[1:])])


def has_steps(net, way):
    """Whether there is a step from each place of a way to the next one."""
    return all([other in net.near[one] for one, other in zip(way, way[1:])])


def is_table(net, place, edge, thing):
    """Whether any value is a table of cuts that covers the place and the edge."""
    if not isinstance(thing, tuple) or not all([is_cut(net, place, edge, cut) for cut in thing]):
        return False
    ways = {way: True for way, _ in thing}
    return all([has_beginning(way, ways) for way in find_left_ways(net, place, edge)])


def has_beginning(way, ways):
    """Whether some beginning of a way is among the ways."""
    return any([way[:length] in ways for length in range(1, len(way) + 1)])


def is_cut(net, place, edge, thing):
    """Whether any value is a cut."""
    if not is_tuple_of(thing, 2):
        return False
    way, closed = thing
    if not is_begun(net, place, edge, way) or not are_below_ascending(closed, len(net.near)):
        return False
    hidden = hidden_bits(net, edge, way)
    if closed == ():
        return not is_first_open(net, edge, hidden)
    return is_closed(net, place, edge, way, closed, hidden)


def is_begun(net, place, edge, way):
    """Whether any value is a way as cuts require, which need not get to the end of the edge."""
    if not are_below(way, len(net.near)) or way == ():
        return False
    start, goal = edge
    if place in way or start in way or goal in way[:-1]:
        return False
    return len(set(way)) == len(way) and has_steps(net, (place,) + way)


def is_closed(net, place, edge, way, closed, hidden):
    """Whether the places of closed include the start of the edge, and no allowed step leads out of them."""
    start, _ = edge
    if start not in closed or place in closed or any([one in closed for one in way]):
        return False
    outside = [other for other in range(len(net.near)) if other not in closed and other not in way]
    return not any([net.passes(one, other, hidden[one]) for one in closed for other in outside])
