"""How places hang together: pieces, blocks and rings in nets; nothing is checked here."""

FEWEST_IN_BLOCK = 2
FEWEST_IN_RING = 3


def find_pieces(net, group):
    """The ascending list of the ascending lists of places of an ascending group that hang together."""
    pieces = []
    left = list(group)
    while left:
        piece = reach(net, left[0], left)
        pieces.append(piece)
        left = [place for place in left if place not in piece]
    return pieces


def reach(net, place, group):
    """The ascending list of the places of a group to which steps within it lead from a place."""
    reached = [place]
    at = 0
    while at < len(reached):
        near = [other for other in net.near[reached[at]] if other in group and other not in reached]
        reached.extend(near)
        at += 1
    return sorted(reached)


def find_blocks(net):
    """The ascending tuple of the blocks."""
    pieces = find_pieces(net, list(range(len(net.near))))
    return tuple(sorted([block for piece in pieces for block in split(net, piece)]))


def split(net, group):
    """A list of the blocks of places that hang together.

    A place without which they fall apart is on no ring with places of two pieces, so it is in a block with each.
    """
    for place in group:
        pieces = find_pieces(net, [other for other in group if other != place])
        if len(pieces) > 1:
            return [block for piece in pieces for block in split(net, sorted(piece + [place]))]
    return [tuple(group)] if len(group) >= FEWEST_IN_BLOCK else []


def find_ring(net, one, other):
    """A simple ring that begins with one place and has another one in it; None if there is none."""
    begun = [(one,)]
    while begun:
        way = begun.pop()
        if len(way) >= FEWEST_IN_RING and other in way and one in net.near[way[-1]]:
            return way
        begun.extend([way + (place,) for place in net.near[way[-1]] if place not in way])
    return None
