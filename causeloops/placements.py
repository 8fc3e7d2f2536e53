"""Placements: which site keeps which registers, and which client visits which sites."""

from causeloops.errors import BadEdge, BadPlace, BadPlacement
from causeloops.graphs import all_edges, count_places, does_visit, is_client, is_step, kept_at, shared_by
from causeloops.kinds import are_below_ascending, are_names_ascending, is_ascending, is_below, is_tuple_of

FEWEST_VISITED = 2


def is_placement(thing):
    """Whether any value is a placement."""
    if not is_tuple_of(thing, 2):
        return False
    sites, clients = thing
    if not isinstance(sites, tuple) or not isinstance(clients, tuple):
        return False
    return all([are_names_ascending(kept) for kept in sites]) and are_clients(clients, len(sites))


def are_clients(clients, count):
    """Whether each item of a tuple tells which of the sites a client visits."""
    return all([are_below_ascending(visited, count) and len(visited) >= FEWEST_VISITED for visited in clients])


def is_place(placement, thing):
    """Whether any value is a place of a valid placement."""
    return is_below(thing, count_places(placement))


def is_site(placement, thing):
    """Whether any value is a site of a valid placement."""
    return is_below(thing, len(placement[0]))


def is_visit(placement, client, site):
    """Whether any values are a client of a valid placement and a site that it visits."""
    return is_place(placement, client) and is_site(placement, site) and does_visit(placement, client, site)


def is_edge(placement, thing):
    """Whether any value is an edge of a valid placement."""
    if not is_tuple_of(thing, 2):
        return False
    one, other = thing
    return is_site(placement, one) and is_site(placement, other) and shared_by(placement, one, other) != ()


def are_edges(placement, thing):
    """Whether any value is an ascending tuple of edges of a valid placement."""
    return isinstance(thing, tuple) and all([is_edge(placement, item) for item in thing]) and is_ascending(thing)


def check_placement(placement):
    """Raise BadPlacement for a value that is not a placement."""
    if not is_placement(placement):
        raise BadPlacement(placement)


def check_place(placement, place):
    """Raise BadPlace for a value that is not a place of a valid placement."""
    if not is_place(placement, place):
        raise BadPlace(place)


def check_site(placement, site):
    """Raise BadPlace for a value that is not a site of a valid placement."""
    if not is_site(placement, site):
        raise BadPlace(site)


def check_visit(placement, client, site):
    """Raise BadPlace for a value that is not a client of a valid placement, or not a site that it visits."""
    if not is_place(placement, client) or not is_client(placement, client):
        raise BadPlace(client)
    if not is_visit(placement, client, site):
        raise BadPlace(site)


def check_edge(placement, edge):
    """Raise BadEdge for a value that is not an edge of a valid placement."""
    if not is_edge(placement, edge):
        raise BadEdge(edge)


def places(placement):
    """The number of the places."""
    check_placement(placement)
    return count_places(placement)


def keeps(placement, place):
    """The ascending tuple of the registers that a place keeps, () for a client."""
    check_placement(placement)
    check_place(placement, place)
    return kept_at(placement, place)


def shared(placement, one, other):
    """The ascending tuple of the registers that two sites share."""
    check_two_places(placement, one, other)
    return shared_by(placement, one, other)


def has_step(placement, one, other):
    """Whether there is a step between two places."""
    check_two_places(placement, one, other)
    return is_step(placement, one, other)


def check_two_places(placement, one, other):
    """Raise the error for the first of the values that is not as it must be."""
    check_placement(placement)
    check_place(placement, one)
    check_place(placement, other)


def edges(placement):
    """The ascending tuple of the edges."""
    check_placement(placement)
    return all_edges(placement)
