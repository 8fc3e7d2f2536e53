"""Shapes of placements: their parts, blocks and rings, and what is needed block by block."""

from causeloops.blocks import FEWEST_IN_BLOCK, FEWEST_IN_RING, find_blocks, find_pieces, find_ring
from causeloops.errors import BadPlace, BadPlaces
from causeloops.graphs import all_edges, count_places
from causeloops.kinds import are_below, are_below_ascending
from causeloops.loops import has_steps
from causeloops.needs import is_on_loop
from causeloops.nets import Net, net_within
from causeloops.placements import FEWEST_VISITED, check_place, check_placement

ALONE = "alone"
FOREST = "forest"
FULL = "full"
RING = "ring"
OTHER = "other"
CLIENTS = "clients"
FEWEST_SITES = 2


def parts(placement):
    """The ascending tuple of the ascending tuples of places that hang together."""
    check_placement(placement)
    return tuple([tuple(piece) for piece in find_pieces(Net(placement), list(range(count_places(placement))))])


def blocks(placement):
    """The ascending tuple of the blocks."""
    check_placement(placement)
    return find_blocks(Net(placement))


def cuts(placement):
    """The ascending tuple of the joint places."""
    found = blocks(placement)
    numbers = range(count_places(placement))
    return tuple([place for place in numbers if len([block for block in found if place in block]) > 1])


def shape(placement):
    """The first of the shapes that the placement has."""
    check_placement(placement)
    sites, clients = placement
    if clients != ():
        return CLIENTS
    if all_edges(placement) == ():
        return ALONE
    net = Net(placement)
    found = find_blocks(net)
    if all([len(block) == FEWEST_IN_BLOCK for block in found]):
        return FOREST
    if sites == sites[:1] * len(sites):
        return FULL
    return RING if is_one_ring(net, sites, found) else OTHER


def is_one_ring(net, sites, found):
    """Whether there is one block with all sites, in which each has two others near, and registers join no more."""
    if found != (tuple(range(len(sites))),) or any([len(near) != 2 for near in net.near]):
        return False
    names = [register for kept in sites for register in kept]
    return all([names.count(register) <= 2 for register in names])


def restricted(placement, places):
    """The placement with some of its places alone, numbered anew."""
    check_placement(placement)
    sites, clients = placement
    if not are_below_ascending(places, count_places(placement)):
        raise BadPlaces(places)
    left = [place for place in places if place < len(sites)]
    if len(left) < FEWEST_SITES:
        raise BadPlaces(places)
    rows = [clients[place - len(sites)] for place in places if place >= len(sites)]
    visited = [tuple([left.index(site) for site in row if site in left]) for row in rows]
    return tuple([sites[site] for site in left]), tuple([row for row in visited if len(row) >= FEWEST_VISITED])


def needs_by_blocks(placement):
    """The tuple, for each place, of its blocks with the edges that it needs within them, without its own."""
    check_placement(placement)
    told = [[] for _ in range(count_places(placement))]
    for block in find_blocks(Net(placement)):
        net = net_within(placement, block)
        for place in block:
            others = [edge for edge in all_edges(placement) if place not in edge]
            told[place].append((block, tuple([edge for edge in others if is_on_loop(net, place, edge)])))
    return tuple([tuple(rows) for rows in told])


def ring_of(placement, one, other):
    """A simple ring that begins with one place and has the other one in it; None if there is none."""
    check_pair(placement, one, other)
    return find_ring(Net(placement), one, other)


def ring_holds(placement, one, other, thing):
    """Whether any value is such a ring."""
    check_pair(placement, one, other)
    if not are_below(thing, count_places(placement)) or len(thing) < FEWEST_IN_RING:
        return False
    if thing[0] != one or other not in thing or len(set(thing)) != len(thing):
        return False
    return has_steps(Net(placement), thing + thing[:1])


def check_pair(placement, one, other):
    """Raise the error for the first of the values that is not as it must be, or if both are the same place."""
    check_placement(placement)
    check_place(placement, one)
    check_place(placement, other)
    if one == other:
        raise BadPlace(other)
