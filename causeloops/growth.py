"""Placements that change: what each place has to count afterwards, and from which counts it goes on."""

from causeloops.errors import BadChange, BadWrites
from causeloops.graphs import count_places, is_client, kept_at, shared_by
from causeloops.kinds import are_below_ascending, is_ascending, is_integer, is_name, is_tuple_of
from causeloops.needs import needed_edges
from causeloops.nets import Net
from causeloops.placements import FEWEST_VISITED, check_place, check_placement, is_place, is_site

KEEP = "keep"
DROP = "drop"
JOIN = "join"
LEAVE = "leave"


def is_change(placement, thing):
    """Whether any value is a change of the placement."""
    check_placement(placement)
    if is_tuple_of(thing, 3):
        word, site, register = thing
        return is_register_change(placement, word, site, register)
    if is_tuple_of(thing, 2):
        word, who = thing
        return is_client_change(placement, word, who)
    return False


def is_register_change(placement, word, site, register):
    """Whether any values tell of a register that comes to a site, or that it no longer keeps."""
    if not is_site(placement, site):
        return False
    kept = kept_at(placement, site)
    if word == KEEP:
        return is_name(register) and register not in kept
    return word == DROP and register in kept


def is_client_change(placement, word, who):
    """Whether any values tell of a client that comes, or that goes."""
    if word == JOIN:
        return are_below_ascending(who, len(placement[0])) and len(who) >= FEWEST_VISITED
    return word == LEAVE and is_place(placement, who) and is_client(placement, who)


def check_change(placement, change):
    """Raise the error for the first of the values that is not as it must be."""
    if not is_change(placement, change):
        raise BadChange(change)


def changed(placement, change):
    """The placement afterwards."""
    check_change(placement, change)
    return change_to(placement, change)


def change_to(placement, change):
    """The placement behind a valid change."""
    sites, clients = placement
    if change[0] == JOIN:
        return sites, clients + (change[1],)
    if change[0] == LEAVE:
        at = change[1] - len(sites)
        return sites, clients[:at] + clients[at + 1:]
    word, site, register = change
    others = [name for name in sites[site] if name != register]
    kept = tuple(sorted(others + [register])) if word == KEEP else tuple(others)
    return sites[:site] + (kept,) + sites[site + 1:], clients


def news(placement, change):
    """The tuple, for each place afterwards, of the edges that it needs now, and of those that it needs no longer."""
    check_change(placement, change)
    before = needs_of(placement)
    told = [()] * count_places(change_to(placement, change))
    for place, edges in enumerate(before):
        behind = place_behind(change, place)
        if behind is not None:
            told[behind] = edges
    after = needs_of(change_to(placement, change))
    return tuple([(left_out(now, then), left_out(then, now)) for then, now in zip(told, after)])


def needs_of(placement):
    """A list of the needed edges of all places of a valid placement."""
    net = Net(placement)
    return [needed_edges(placement, net, place) for place in range(count_places(placement))]


def left_out(edges, others):
    """The tuple of the edges that are not among the others, in order."""
    return tuple([edge for edge in edges if edge not in others])


def place_after(placement, change, place):
    """The place afterwards, None for the client that leaves."""
    check_change(placement, change)
    check_place(placement, place)
    return place_behind(change, place)


def place_behind(change, place):
    """The place behind a valid change, None for the client that leaves."""
    if change[0] != LEAVE or place < change[1]:
        return place
    return None if place == change[1] else place - 1


def counts_anew(placement, change, writes):
    """The tuple, for each place afterwards, of the counts of its needed edges from which it goes on."""
    check_change(placement, change)
    if not are_writes(placement, writes):
        raise BadWrites(writes)
    after = change_to(placement, change)
    return tuple([tuple([count_sent(after, writes, edge) for edge in edges]) for edges in needs_of(after)])


def count_sent(placement, writes, edge):
    """How often the first site of an edge has written registers that both of its sites keep."""
    site, other = edge
    both = shared_by(placement, site, other)
    return sum([number for register, number in writes[site] if register in both])


def are_writes(placement, thing):
    """Whether any value tells for each site how often it has written which registers."""
    return is_tuple_of(thing, len(placement[0])) and all([are_writes_of_site(item) for item in thing])


def are_writes_of_site(thing):
    """Whether any value is a tuple of pairs of a register and an integer from 1 on, ascending by registers."""
    if not isinstance(thing, tuple) or not all([is_number_of_writes(item) for item in thing]):
        return False
    return is_ascending([register for register, _ in thing])


def is_number_of_writes(thing):
    """Whether any value is a pair of a register and an integer from 1 on."""
    return is_tuple_of(thing, 2) and is_name(thing[0]) and is_integer(thing[1]) and thing[1] >= 1
