"""A second reading of Parts 8 and 9: stand-ins, prices and changes, with sets.

Nothing here uses the package, so that the tests compare two independent answers.
"""

from functools import lru_cache
from itertools import combinations

from tests import oracle, oracle_ranks, oracle_runs


def is_name(thing):
    return type(thing) is str and 0 < len(thing) < 11 and set(thing) <= set("abcdefghijklmnopqrstuvwxyz")


def registers_of(placement):
    return sorted(oracle.kept_by(placement, range(oracle.sites_of(placement))))


def pairs(placement):
    return tuple((site, x) for site in range(oracle.sites_of(placement)) for x in registers_of(placement)
                 if x not in oracle.kept(placement, site))


def are_standins(placement, thing):
    if type(thing) is not tuple or not all(type(item) is tuple and len(item) == 2 for item in thing):
        return False
    if not all(type(item[0]) is int and type(item[1]) is str for item in thing):
        return False
    return set(thing) <= set(pairs(placement)) and list(thing) == sorted(set(thing))


def widened(placement, standins):
    more = [{x for place, x in standins if place == site} for site in range(oracle.sites_of(placement))]
    return (tuple(tuple(sorted(oracle.kept(placement, site) | more[site])) for site in range(len(more))),
            placement[1])


@lru_cache(maxsize=None)
def price(placement, standins):
    wide = widened(placement, standins)
    counters = sum(oracle_ranks.numbers(wide, oracle_runs.least(wide)))
    messages = sum(sum(x in row for row in wide[0]) - 1 for x in registers_of(wide))
    return counters, messages


def all_of(placement, most):
    """All stand-ins with at most so many pairs."""
    found = pairs(placement)
    return [some for length in range(min(most, len(found)) + 1) for some in combinations(found, length)]


def best(placement, most):
    return min(price(placement, some) for some in all_of(placement, most))


def certificates(placement, standins, most):
    """All certificates of [8.4]."""
    mine = price(placement, standins)
    found = [("less", some) for some in all_of(placement, most) if price(placement, some) < mine]
    return found + [("best",)] * (len(standins) <= most and not found)


def is_change(placement, thing):
    if type(thing) is not tuple or not thing or type(thing[0]) is not str:
        return False
    sites, places = oracle.sites_of(placement), oracle.places_of(placement)
    if thing[0] in ("keep", "drop") and len(thing) == 3:
        if type(thing[1]) is not int or not 0 <= thing[1] < sites or not is_name(thing[2]):
            return False
        return (thing[2] in oracle.kept(placement, thing[1])) == (thing[0] == "drop")
    if thing[0] == "join" and len(thing) == 2:
        row = thing[1]
        if type(row) is not tuple or not all(type(site) is int and 0 <= site < sites for site in row):
            return False
        return len(row) > 1 and list(row) == sorted(set(row))
    return thing[0] == "leave" and len(thing) == 2 and type(thing[1]) is int and sites <= thing[1] < places


def changes(placement, names):
    """All changes within the limits, registers that come being some of the names."""
    sites, places = oracle.sites_of(placement), oracle.places_of(placement)
    found = [(word, site, x) for word in ("keep", "drop") for site in range(sites) for x in names]
    if places < 7:
        found += [("join", row) for length in range(2, sites + 1) for row in combinations(range(sites), length)]
    found += [("leave", client) for client in range(places)]
    return [change for change in found if is_change(placement, change)]


def changed(placement, change):
    sites, clients = [set(row) for row in placement[0]], list(placement[1])
    if change[0] == "keep":
        sites[change[1]].add(change[2])
    elif change[0] == "drop":
        sites[change[1]].remove(change[2])
    elif change[0] == "join":
        clients.append(change[1])
    else:
        del clients[change[1] - len(sites)]
    return tuple(tuple(sorted(row)) for row in sites), tuple(clients)


def befores(placement, change):
    """For each place afterwards the place before, None for a client that joins."""
    found = list(range(oracle.places_of(placement)))
    if change[0] == "leave":
        found.remove(change[1])
    return found + [None] * (change[0] == "join")


def news(placement, change):
    after = changed(placement, change)
    found = []
    for place, before in enumerate(befores(placement, change)):
        now = set(oracle_runs.needed(after, place))
        then = set() if before is None else set(oracle_runs.needed(placement, before))
        found.append((tuple(sorted(now - then)), tuple(sorted(then - now))))
    return tuple(found)


def are_writes(placement, thing):
    if type(thing) is not tuple or len(thing) != oracle.sites_of(placement):
        return False
    for row in thing:
        if type(row) is not tuple or not all(type(item) is tuple and len(item) == 2 for item in row):
            return False
        if not all(is_name(x) and type(number) is int and number > 0 for x, number in row):
            return False
        names = [x for x, _ in row]
        if names != sorted(set(names)):
            return False
    return True


def counts_anew(placement, change, writes):
    after = changed(placement, change)
    return tuple(tuple(sum(number for x, number in writes[j] if x in oracle.kept(after, j) & oracle.kept(after, k))
                       for j, k in oracle_runs.needed(after, place)) for place in range(oracle.places_of(after)))
