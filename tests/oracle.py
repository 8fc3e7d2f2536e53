"""A second reading of Parts 1 and 2 of the document, by plain sets and by trying everything.

Nothing here uses the package, so that the tests compare two independent answers.
"""

from itertools import permutations


def sites_of(placement):
    return len(placement[0])


def places_of(placement):
    return len(placement[0]) + len(placement[1])


def kept(placement, place):
    return set(placement[0][place]) if place < sites_of(placement) else set()


def kept_by(placement, way):
    return set().union(*[kept(placement, place) for place in way])


def is_visit(placement, one, other):
    low, high = min(one, other), max(one, other)
    return high >= sites_of(placement) and low in placement[1][high - sites_of(placement)]


def is_step(placement, one, other):
    if one == other:
        return False
    return bool(kept(placement, one) & kept(placement, other)) or is_visit(placement, one, other)


def edges_of(placement):
    count = sites_of(placement)
    return tuple((j, k) for j in range(count) for k in range(count) if j != k and is_step(placement, j, k))


def questions(placement):
    """All pairs of a place and an edge that is not one of it."""
    return [(i, edge) for i in range(places_of(placement)) for edge in edges_of(placement) if i not in edge]


def steps_hold(placement, way):
    return all(is_step(placement, way[at], way[at + 1]) for at in range(len(way) - 1))


def may_step(placement, one, other, hidden):
    """A visit, or a shared register that is not hidden."""
    if is_visit(placement, one, other):
        return True
    return bool((kept(placement, one) & kept(placement, other)) - hidden)


def are_places(placement, thing):
    return type(thing) is tuple and all(type(x) is int and 0 <= x < places_of(placement) for x in thing)


def is_loop(placement, i, edge, left, right):
    j, k = edge
    if not are_places(placement, left) or not are_places(placement, right):
        return False
    if not left or left[-1] != k or not right or right[0] != j:
        return False
    ring = (i,) + left + right
    if len(set(ring)) < len(ring) or not steps_hold(placement, ring + (i,)):
        return False
    but_k = kept_by(placement, [place for place in left if place != k])
    if not (kept(placement, j) & kept(placement, k)) - but_k:
        return False
    back = right + (i,)
    if not may_step(placement, back[0], back[1], but_k):
        return False
    whole = kept_by(placement, left)
    return all(may_step(placement, back[at], back[at + 1], whole) for at in range(1, len(back) - 1))


def all_loops(placement, i, edge):
    """All loops, found by trying all pairs of ways."""
    j, k = edge
    others = [place for place in range(places_of(placement)) if place not in (i, j, k)]
    found = []
    for length in range(len(others) + 1):
        for row in permutations(others, length):
            for cut in range(length + 1):
                left, right = row[:cut] + (k,), (j,) + row[cut:]
                if is_loop(placement, i, edge, left, right):
                    found.append((left, right))
    return found


def all_left_ways(placement, i, edge):
    j, k = edge
    others = [place for place in range(places_of(placement)) if place not in (i, j, k)]
    rows = [row + (k,) for length in range(len(others) + 1) for row in permutations(others, length)]
    return tuple(sorted(row for row in rows if steps_hold(placement, (i,) + row)))


def is_cut(placement, i, edge, thing):
    j, k = edge
    if type(thing) is not tuple or len(thing) != 2:
        return False
    way, closed = thing
    if not are_places(placement, way) or not are_places(placement, closed):
        return False
    if not way or len(set(way)) < len(way) or i in way or j in way or k in way[:-1]:
        return False
    if not steps_hold(placement, (i,) + way) or list(closed) != sorted(set(closed)):
        return False
    but_k = kept_by(placement, [place for place in way if place != k])
    if not closed:
        return (kept(placement, j) & kept(placement, k)) <= but_k
    if j not in closed or i in closed or set(way) & set(closed):
        return False
    for one in closed:
        for other in range(places_of(placement)):
            hidden = but_k if one == j else kept_by(placement, way)
            if other not in way and other != one and is_step(placement, one, other):
                if may_step(placement, one, other, hidden) and other not in closed:
                    return False
    return True


def holds(placement, i, edge, thing):
    """Whether any value is a certificate of [2.3]."""
    if type(thing) is not tuple or not thing or type(thing[0]) is not str:
        return False
    if thing[0] == "loop" and len(thing) == 3:
        return is_loop(placement, i, edge, thing[1], thing[2])
    if thing[0] != "none" or len(thing) != 2 or type(thing[1]) is not tuple:
        return False
    if not all(is_cut(placement, i, edge, cut) for cut in thing[1]):
        return False
    ways = [cut[0] for cut in thing[1]]
    return all(any(left[:len(way)] == way for way in ways) for left in all_left_ways(placement, i, edge))
