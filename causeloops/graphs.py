"""Places, steps and edges of a placement that is known to be one; nothing is checked here."""


def count_places(placement):
    """The number of the sites and clients."""
    sites, clients = placement
    return len(sites) + len(clients)


def is_client(placement, place):
    """Whether a place is a client."""
    sites, _ = placement
    return place >= len(sites)


def kept_at(placement, place):
    """The ascending tuple of the registers that a place keeps."""
    sites, _ = placement
    return sites[place] if place < len(sites) else ()


def shared_by(placement, one, other):
    """The ascending tuple of the registers that two different sites share."""
    if one == other:
        return ()
    theirs = kept_at(placement, other)
    return tuple([register for register in kept_at(placement, one) if register in theirs])


def does_visit(placement, one, other):
    """Whether the first place is a client that visits the second one."""
    sites, clients = placement
    return is_client(placement, one) and other in clients[one - len(sites)]


def is_step(placement, one, other):
    """Whether there is a step between two places."""
    if shared_by(placement, one, other):
        return True
    return does_visit(placement, one, other) or does_visit(placement, other, one)


def all_edges(placement):
    """The ascending tuple of the edges."""
    sites, _ = placement
    numbers = range(len(sites))
    return tuple([(one, other) for one in numbers for other in numbers if shared_by(placement, one, other)])
