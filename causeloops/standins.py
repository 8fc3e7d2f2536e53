"""Stand-ins: sites that hear of a register that they do not keep, and what that costs and saves."""

from itertools import combinations

from causeloops.errors import BadNumber, BadStandins
from causeloops.graphs import count_places
from causeloops.kinds import is_ascending, is_integer, is_tuple_of
from causeloops.needs import needed_edges
from causeloops.nets import Net
from causeloops.placements import check_placement, is_site
from causeloops.rows import groups_of

BEST = "best"
LESS = "less"


def are_standins(placement, thing):
    """Whether any value is stand-ins of the placement."""
    check_placement(placement)
    return are_standins_of(placement, thing)


def are_standins_of(placement, thing):
    """Whether any value is stand-ins of a valid placement."""
    if not isinstance(thing, tuple) or not all([is_standin(placement, item) for item in thing]):
        return False
    return is_ascending(thing)


def is_standin(placement, thing):
    """Whether any value is a pair of a site and a register that it does not keep, but another one does."""
    return is_tuple_of(thing, 2) and is_site(placement, thing[0]) and thing in pairs_of(placement)


def all_registers(placement):
    """The ascending list of the registers that are kept somewhere."""
    sites, _ = placement
    return sorted(set([register for kept in sites for register in kept]))


def widened(placement, standins):
    """The widened placement."""
    check_standins(placement, standins)
    return widen(placement, standins)


def widen(placement, standins):
    """The placement in which the sites have the registers of valid stand-ins, too."""
    sites, clients = placement
    more = [[register for place, register in standins if place == site] for site in range(len(sites))]
    return tuple([tuple(sorted(list(kept) + added)) for kept, added in zip(sites, more)]), clients


def price(placement, standins):
    """The price of stand-ins: numbers that are counted, and messages."""
    check_standins(placement, standins)
    return price_of(placement, standins)


def price_of(placement, standins):
    """The price of valid stand-ins."""
    wide = widen(placement, standins)
    net = Net(wide)
    counted = [needed_edges(wide, net, place) for place in range(count_places(wide))]
    counters = sum([len(groups_of(wide, edges)) for edges in counted])
    messages = sum([len(kept) for kept in wide[0]]) - len(all_registers(wide))
    return counters, messages


def all_standins(placement):
    """The tuple of all pairs of a site and a register for which it can stand in."""
    check_placement(placement)
    return pairs_of(placement)


def pairs_of(placement):
    """The tuple of all pairs of a valid placement."""
    names = all_registers(placement)
    return tuple([(site, name) for site, kept in enumerate(placement[0]) for name in names if name not in kept])


def best_price(placement, most):
    """The least price of all stand-ins with at most so many pairs."""
    check_most(placement, most)
    return find_best(placement, most)[0]


def best_standins(placement, most):
    """Stand-ins with the best price."""
    check_most(placement, most)
    return find_best(placement, most)[1]


def judge_standins(placement, standins, most):
    """A certificate: that the stand-ins are best, or others of a lesser price; None if there is none."""
    check_standins_and_most(placement, standins, most)
    least, others = find_best(placement, most)
    if least < price_of(placement, standins):
        return LESS, others
    return (BEST,) if len(standins) <= most else None


def standins_hold(placement, standins, most, thing):
    """Whether any value is a certificate."""
    check_standins_and_most(placement, standins, most)
    if is_tuple_of(thing, 2) and thing[0] == LESS:
        others = thing[1]
        if not are_standins_of(placement, others) or len(others) > most:
            return False
        return price_of(placement, others) < price_of(placement, standins)
    return thing == (BEST,) and judge_standins(placement, standins, most) == (BEST,)


def find_best(placement, most):
    """The pair of the best price and stand-ins with it."""
    pairs = pairs_of(placement)
    found = []
    for length in range(min(most, len(pairs)) + 1):
        found.extend([(price_of(placement, standins), standins) for standins in combinations(list(pairs), length)])
    return min(found)


def check_standins(placement, standins):
    """Raise the error for the first of the values that is not as it must be."""
    if not are_standins(placement, standins):
        raise BadStandins(standins)


def check_most(placement, most):
    """Raise the error for the first of the values that is not as it must be."""
    check_placement(placement)
    check_limit(most)


def check_standins_and_most(placement, standins, most):
    """Raise the error for the first of the values that is not as it must be."""
    check_standins(placement, standins)
    check_limit(most)


def check_limit(most):
    """Raise BadNumber for a value that is not an integer from 0 on."""
    if not is_integer(most) or most < 0:
        raise BadNumber(most)
