"""A second reading of Part 10: blocks by all simple rings, needs within a block by all loops.

Nothing here uses the package, so that the tests compare two independent answers.
"""

from functools import lru_cache
from itertools import combinations, permutations

from tests import oracle


def is_ring(placement, thing):
    if not oracle.are_places(placement, thing) or len(thing) < 3 or len(set(thing)) < len(thing):
        return False
    return oracle.steps_hold(placement, thing + thing[:1])


@lru_cache(maxsize=None)
def rings(placement):
    """All simple rings, as sets of places."""
    places = range(oracle.places_of(placement))
    found = []
    for length in range(3, len(places) + 1):
        for group in combinations(places, length):
            if any(is_ring(placement, group[:1] + row) for row in permutations(group[1:])):
                found.append(frozenset(group))
    return found


def are_together(placement, one, other):
    """Near, or on one simple ring."""
    return oracle.is_step(placement, one, other) or any({one, other} <= ring for ring in rings(placement))


def parts(placement):
    groups = [{place} for place in range(oracle.places_of(placement))]
    for one, other in combinations(range(oracle.places_of(placement)), 2):
        if oracle.is_step(placement, one, other):
            first, second = [next(group for group in groups if place in group) for place in (one, other)]
            if first is not second:
                groups.remove(second)
                first |= second
    return tuple(sorted(tuple(sorted(group)) for group in groups))


@lru_cache(maxsize=None)
def blocks(placement):
    """The greatest tuples of places that are all together."""
    places = range(oracle.places_of(placement))
    good = [group for length in range(2, len(places) + 1) for group in combinations(places, length)
            if all(are_together(placement, one, other) for one, other in combinations(group, 2))]
    return tuple(sorted(group for group in good if not any(set(group) < set(other) for other in good)))


def cuts(placement):
    return tuple(place for place in range(oracle.places_of(placement))
                 if sum(place in block for block in blocks(placement)) > 1)


def shape(placement):
    sites, clients = placement
    if clients:
        return "clients"
    if not oracle.edges_of(placement):
        return "alone"
    if all(len(block) == 2 for block in blocks(placement)):
        return "forest"
    if len(set(sites)) == 1 and sites[0]:
        return "full"
    if (len(blocks(placement)) == 1 and len(blocks(placement)[0]) == len(sites)
            and all(sum(oracle.is_step(placement, one, other) for other in range(len(sites))) == 2
                    for one in range(len(sites)))
            and all(sum(x in row for row in sites) <= 2 for x in set().union(*sites))):
        return "ring"
    return "other"


def restricted(placement, places):
    sites = [place for place in places if place < oracle.sites_of(placement)]
    anew = {site: at for at, site in enumerate(sites)}
    rows = [tuple(anew[site] for site in placement[1][place - oracle.sites_of(placement)] if site in anew)
            for place in places if place >= oracle.sites_of(placement)]
    return tuple(placement[0][site] for site in sites), tuple(row for row in rows if len(row) > 1)


def needs_by_blocks(placement):
    """By loops of the whole placement all of whose places are in the block."""
    found = []
    for place in range(oracle.places_of(placement)):
        row = []
        for block in [block for block in blocks(placement) if place in block]:
            edges = [edge for edge in oracle.edges_of(placement) if place not in edge and any(
                set(left + right) <= set(block) for left, right in oracle.all_loops(placement, place, edge))]
            row.append((block, tuple(edges)))
        found.append(tuple(row))
    return tuple(found)
