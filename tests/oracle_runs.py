"""A second reading of Parts 3 to 6: counts in dicts by edge, known updates in sets of numbers.

Nothing here uses the package, so that the tests compare two independent answers.
"""

from functools import lru_cache

from tests import oracle


@lru_cache(maxsize=None)
def needed(placement, place):
    """[3.1], with all loops looked for."""
    return tuple(edge for edge in oracle.edges_of(placement)
                 if place in edge or oracle.all_loops(placement, place, edge))


def least(placement):
    return tuple(needed(placement, place) for place in range(oracle.places_of(placement)))


def own(placement):
    """The plan in which each place counts its own edges alone."""
    return tuple(tuple(edge for edge in oracle.edges_of(placement) if place in edge)
                 for place in range(oracle.places_of(placement)))


def is_edge(placement, thing):
    return (type(thing) is tuple and len(thing) == 2 and all(type(x) is int for x in thing)
            and thing in oracle.edges_of(placement))


def is_plan(placement, thing):
    if type(thing) is not tuple or len(thing) != oracle.places_of(placement):
        return False
    for place, row in enumerate(thing):
        if type(row) is not tuple or not all(is_edge(placement, edge) for edge in row):
            return False
        if list(row) != sorted(set(row)) or not set(own(placement)[place]) <= set(row):
            return False
    return True


def lacking(placement, plan):
    return tuple((place, edge) for place in range(oracle.places_of(placement)) for edge in needed(placement, place)
                 if edge not in plan[place])


def are_counts(plan, place, thing):
    return (type(thing) is tuple and len(thing) == len(plan[place])
            and all(type(count) is int and count >= 0 for count in thing))


def is_update(placement, plan, thing):
    if type(thing) is not tuple or len(thing) != 3 or type(thing[0]) is not int or type(thing[1]) is not str:
        return False
    return (0 <= thing[0] < oracle.sites_of(placement) and thing[1] in oracle.kept(placement, thing[0])
            and are_counts(plan, thing[0], thing[2]))


def by_edge(plan, place, counts):
    return {edge: counts[at] for at, edge in enumerate(plan[place])}


def in_order(plan, place, table):
    return tuple(table[edge] for edge in plan[place])


def write(placement, i, register, table):
    """[4.2]: the new counts of i."""
    after = dict(table)
    for k in range(oracle.sites_of(placement)):
        if k != i and register in oracle.kept(placement, k):
            after[(i, k)] += 1
    return after


def update_ready(i, theirs, k, mine):
    """[4.3]: an update of i with its counts, at k."""
    for edge in theirs:
        if edge in mine and edge[1] == k:
            if edge[0] == i and theirs[edge] != mine[edge] + 1:
                return False
            if edge[0] != i and theirs[edge] > mine[edge]:
                return False
    return True


def visit_ready(mine, s, its):
    """[4.4]: a client with its counts, at s."""
    return not any(edge[1] == s and edge in its and mine[edge] > its[edge] for edge in mine)


def merge(mine, theirs):
    return {edge: max(mine[edge], theirs[edge]) if edge in theirs else mine[edge] for edge in mine}


class Play:
    """What there is behind some events."""

    def __init__(self, placement, plan):
        self.placement, self.plan = placement, plan
        self.counts = [{edge: 0 for edge in row} for row in plan]
        self.knows = [set() for _ in plan]
        self.has = [set() for _ in plan]
        self.updates = []
        self.causes = []
        self.early = []

    def keepers(self, m):
        return [k for k in range(oracle.sites_of(self.placement))
                if self.updates[m][1] in oracle.kept(self.placement, k)]

    def lacks(self, k, known):
        return {m for m in known if k in self.keepers(m) and m not in self.has[k]}

    def missing(self):
        return tuple((k, m) for k in range(oracle.sites_of(self.placement))
                     for m in sorted(self.lacks(k, range(len(self.updates)))))

    def is_possible(self, event):
        if type(event) is not tuple or len(event) != 3 or type(event[0]) is not str:
            return False
        word, one, other = event
        sites, places = oracle.sites_of(self.placement), oracle.places_of(self.placement)
        if type(one) is not int or type(other) is not (str if word == "write" else int):
            return False
        if word == "write":
            return 0 <= one < sites and other in oracle.kept(self.placement, one)
        if word == "apply":
            if not 0 <= one < sites or not 0 <= other < len(self.updates):
                return False
            i, _, theirs = self.updates[other]
            if i == one or one not in self.keepers(other) or other in self.has[one]:
                return False
            return update_ready(i, theirs, one, self.counts[one])
        if word == "visit":
            if not sites <= one < places or not 0 <= other < sites:
                return False
            return (other in self.placement[1][one - sites]
                    and visit_ready(self.counts[one], other, self.counts[other]))
        return False

    def ahead_of(self, event):
        """[5.3]: the updates that an event should have come after."""
        word, one, other = event
        if word == "write":
            return set()
        return self.lacks(one, self.causes[other]) if word == "apply" else self.lacks(other, self.knows[one])

    def do(self, event):
        word, one, other = event
        self.early.append(self.ahead_of(event))
        if word == "write":
            self.counts[one] = write(self.placement, one, other, self.counts[one])
            self.causes.append(set(self.knows[one]))
            self.updates.append((one, other, self.counts[one]))
            for group in (self.knows[one], self.has[one]):
                group.add(len(self.updates) - 1)
        elif word == "apply":
            self.counts[one] = merge(self.counts[one], self.updates[other][2])
            self.knows[one] |= self.causes[other] | {other}
            self.has[one].add(other)
        else:
            mine, its = self.counts[one], self.counts[other]
            self.counts[one], self.counts[other] = merge(mine, its), merge(its, mine)
            self.knows[one] = self.knows[one] | self.knows[other]
            self.knows[other] = set(self.knows[one])

    def events(self):
        """All possible events."""
        registers = sorted(oracle.kept_by(self.placement, range(oracle.sites_of(self.placement))))
        places = range(oracle.places_of(self.placement))
        found = [("write", i, x) for i in places for x in registers]
        found += [("apply", k, m) for k in places for m in range(len(self.updates))]
        found += [("visit", c, s) for c in places for s in places]
        return [event for event in found if self.is_possible(event)]

    def copy(self):
        other = Play(self.placement, self.plan)
        other.counts, other.updates, other.causes = list(self.counts), list(self.updates), list(self.causes)
        other.knows, other.has = [set(row) for row in self.knows], [set(row) for row in self.has]
        other.early = list(self.early)
        return other

    def certificates(self):
        """All certificates of [5.4]."""
        for at, lacked in enumerate(self.early):
            if lacked:
                return [("early", at, u) for u in sorted(lacked)]
        return [("right",)]


def play(placement, plan, run):
    """What there is behind a run; None for any value that is not a run."""
    if type(run) is not tuple:
        return None
    state = Play(placement, plan)
    for event in run:
        if not state.is_possible(event):
            return None
        state.do(event)
    return state
