"""Placements and values that several tests use."""

from itertools import combinations, product

from causeloops.benches import Bench
from causeloops.errors import BadPlacement, LoopError, NotReady
from causeloops.stores import Store

LINE = ((("a",), ("a", "b"), ("b",)), ())
JOINED = ((("a",), ("a", "b"), ("b",)), ((0, 2),))
THREE = ((("a", "b"), ("b", "c"), ("a", "c")), ())
RING = ((("a", "d"), ("a", "b"), ("b", "c"), ("c", "d")), ())
STAR = ((("a", "b", "c"), ("a",), ("b",), ("c",)), ())
FULL = ((("a", "b"), ("a", "b"), ("a", "b")), ())
HEARD = ((("p", "r"), ("c", "r"), ("c", "q"), ("c", "p", "q")), ())
ALONE = ((("a",), (), ("b",)), ((0, 1), (0, 1, 2)))
EMPTY = ((), ())
NAMED = (LINE, JOINED, THREE, RING, STAR, FULL, HEARD, ALONE, EMPTY)


class Numbers:
    """Numbers that look random and are always the same."""

    def __init__(self, seed):
        self.seed = seed

    def below(self, limit):
        self.seed = (self.seed * 6364136223846793005 + 1442695040888963407) % 2 ** 64
        return (self.seed >> 33) % limit


def drawn_placement(numbers, sites, registers, clients, share):
    """A placement in which a site keeps each register with `share` chances in ten."""
    letters = "abcdefghijkl"[:registers]
    kept = tuple(tuple(x for x in letters if numbers.below(10) < share) for _ in range(sites))
    visited = []
    while len(visited) < clients:
        row = tuple(site for site in range(sites) if numbers.below(10) < 5)
        if len(row) >= 2:
            visited.append(row)
    return kept, tuple(visited)


def drawn_placements(count, seed, sites, registers, clients):
    numbers = Numbers(seed)
    return [drawn_placement(numbers, sites, registers, clients, 2 + at % 5) for at in range(count)]


def rows_of(letters):
    """All ascending tuples of some of the letters."""
    return [row for length in range(len(letters) + 1) for row in combinations(letters, length)]


def three_site_placements():
    """All placements of three sites and two registers, with some clients."""
    groups = ((), ((0, 1),), ((0, 2),), ((0, 1, 2),), ((0, 1), (1, 2)))
    return [(sites, clients) for sites in product(rows_of("ab"), repeat=3) for clients in groups]


def many_placements():
    """Some hundred small placements of all kinds."""
    found = list(NAMED) + three_site_placements()
    found += [(sites, ()) for sites in product(rows_of("abc"), repeat=3)]
    found += drawn_placements(60, 1, 4, 4, 0) + drawn_placements(60, 2, 4, 4, 1)
    found += drawn_placements(40, 3, 5, 6, 0) + drawn_placements(30, 4, 4, 5, 2)
    found += drawn_placements(20, 5, 5, 6, 1) + drawn_placements(10, 6, 6, 8, 0)
    found += drawn_placements(3, 7, 6, 12, 1) + drawn_placements(3, 8, 4, 5, 3)
    return found


def own_objects():
    """A store and a bench at which something was done."""
    plan = (((0, 1), (1, 0)),) * 3
    placement = ((("a",), ("a",)), ((0, 1),))
    store, bench = Store(placement, plan), Bench(placement, plan)
    store.put(2, 0, "a", 1)
    bench.do(("write", 0, "a"))
    bench.do(("apply", 1, 0))
    bench.undo()
    return store, bench


def strange_values():
    """Values of all kinds that can be passed as any value."""
    store, bench = own_objects()
    deep = ()
    for _ in range(9):
        deep = (deep,)
    return [
        None, True, False, 0, 1, -1, 7, 10 ** 39, -10 ** 39, "", "a", "loop", "none", "A", "site\n", "z" * 1000,
        (), [], {}, ((),), [()], (None,), (True,), (0,), (0, 1), [0, 1], (1, 1), (False, True), ("a", "b"),
        (0, 1, 2), ((0, 1),), {"a": 1}, {0: ()}, deep, (0, "1"), ("0", 1), (-1, 0), (0, None), tuple(range(1000)),
        LoopError(), NotReady(), BadPlacement(3), (BadPlacement(()), 1), [[[["a"]]]],
        store, bench, (store, bench), [store], {"a": bench}, ("loop", store, bench), (store, (bench,)), ((store,), ()),
    ]


def variants(thing, parts):
    """What comes of a tuple if a part of it is replaced, left out, doubled or exchanged, at any depth."""
    found = []
    if type(thing) is tuple:
        found.append(list(thing))
        found += [thing + (part,) for part in parts]
        for at, item in enumerate(thing):
            found.append(thing[:at] + thing[at + 1:])
            found.append(thing[:at] + (item,) + thing[at:])
            found += [thing[:at] + (part,) + thing[at + 1:] for part in parts]
            found += [thing[:at] + (other,) + thing[at + 1:] for other in variants(item, parts)]
            found += [thing[:at] + (thing[two],) + thing[at + 1:two] + (item,) + thing[two + 1:]
                      for two in range(at + 1, len(thing))]
    return found


def snapshot(value):
    """What changes if a value or a part of it does; objects are told by their attributes."""
    if type(value) in (tuple, list):
        return type(value), [snapshot(part) for part in value]
    if type(value) is dict:
        return dict, [(repr(key), snapshot(part)) for key, part in value.items()]
    return type(value), snapshot(vars(value)) if hasattr(value, "__dict__") else repr(value)


def told(call, *values, **named):
    """What a call returns, or the class and the attributes of its error; what it is passed must not change."""
    passed = list(values) + list(named.values())
    before = snapshot(passed)
    try:
        answer = call(*values, **named)
    except LoopError as error:
        answer = (type(error), dict(vars(error)))
    assert snapshot(passed) == before
    return answer
