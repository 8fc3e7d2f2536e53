"""A second reading of Parts 11 and 12: a store that keeps lists, and causes found by walking back through rows.

Nothing here uses the package, so that the tests compare two independent answers.
"""

from tests import oracle, oracle_runs


class Shop:
    """A store: what came of the deeds so far is worked out from the rows."""

    def __init__(self, placement, plan):
        self.placement, self.plan = placement, plan
        self.play = oracle_runs.Play(placement, plan)
        self.worths = []
        self.values = [[None] * len(row) for row in placement[0]]
        self.rows = []

    def do(self, event, worth=None):
        self.play.do(event)
        word, one, other = event
        if word == "write":
            self.worths.append(worth)
            self.set(one, other, worth)
            self.rows.append(event + (worth,))
        else:
            self.rows.append(event)
            if word == "apply":
                self.set(one, self.play.updates[other][1], self.worths[other])

    def set(self, site, register, worth):
        self.values[site][self.placement[0][site].index(register)] = worth

    def value(self, site, register):
        return self.values[site][self.placement[0][site].index(register)]

    def got(self, client, site, register):
        self.rows.append(("read", client, site, register, self.value(site, register)))
        return self.value(site, register)

    def settle(self):
        done = 0
        while True:
            ready = [pair for pair in self.play.missing() if self.play.is_possible(("apply",) + pair)]
            if not ready:
                return done
            self.do(("apply",) + min(ready))
            done += 1

    def counts(self, place):
        return oracle_runs.in_order(self.plan, place, self.play.counts[place])

    def all_counts(self):
        return tuple(self.counts(place) for place in range(oracle.places_of(self.placement)))


def is_integer(thing):
    return type(thing) is int


def are_strings_and_numbers(thing, kinds):
    return type(thing) is tuple and len(thing) == len(kinds) and all(type(x) in kind for x, kind in zip(thing, kinds))


def can_come(placement, rows, row):
    """[12.2]: whether any value can be the next row of a free history."""
    sites, places = oracle.sites_of(placement), oracle.places_of(placement)

    def is_site(x):
        return 0 <= x < sites

    def does_visit(client, site):
        return is_site(site) and sites <= client < places and site in placement[1][client - sites]

    if are_strings_and_numbers(row, ((str,), (int,), (str,), (int,))) and row[0] == "write":
        return is_site(row[1]) and row[2] in placement[0][row[1]]
    if are_strings_and_numbers(row, ((str,), (int,), (int,))) and row[0] == "apply":
        writes = [old for old in rows if old[0] == "write"]
        if not is_site(row[1]) or not 0 <= row[2] < len(writes):
            return False
        _, writer, register, _ = writes[row[2]]
        return writer != row[1] and register in placement[0][row[1]] and row not in rows
    if are_strings_and_numbers(row, ((str,), (int,), (int,))) and row[0] == "visit":
        return does_visit(row[1], row[2])
    if are_strings_and_numbers(row, ((str,), (int,), (int,), (str,), (int, type(None)))) and row[0] == "read":
        return does_visit(row[1], row[2]) and row[3] in placement[0][row[2]]
    return False


def is_free(placement, thing):
    return type(thing) is tuple and all(can_come(placement, thing[:at], row) for at, row in enumerate(thing))


def writes_of(rows):
    """The positions of the write rows, in order."""
    return [at for at, row in enumerate(rows) if row[0] == "write"]


def knows(rows, at, place, seen=None):
    """The numbers of the updates that a place knows behind the first `at` rows, by walking back."""
    numbers = {position: number for number, position in enumerate(writes_of(rows))}
    seen = set() if seen is None else seen
    if (at, place) in seen:
        return set()
    seen.add((at, place))
    found = set()
    for position in range(at - 1, -1, -1):
        row = rows[position]
        if row[0] == "write" and row[1] == place:
            found.add(numbers[position])
        elif row[0] == "apply" and row[1] == place:
            source = writes_of(rows)[row[2]]
            found |= {row[2]} | knows(rows, source, rows[source][1], seen)
        elif row[0] == "visit" and place in row[1:]:
            other = row[2] if place == row[1] else row[1]
            found |= knows(rows, position, other, seen)
    return found


def causes(rows, number):
    at = writes_of(rows)[number]
    return knows(rows, at, rows[at][1])


def had(rows, at, site):
    """The numbers of the updates that a site has behind the first `at` rows."""
    writes = writes_of(rows)
    own = {number for number, position in enumerate(writes) if position < at and rows[position][1] == site}
    return own | {row[2] for row in rows[:at] if row[0] == "apply" and row[1] == site}


def is_causal(rows, at):
    """[12.3] for one read row."""
    _, client, site, register, value = rows[at]
    writes = writes_of(rows)
    mine = {number for number in knows(rows, at, client) if rows[writes[number]][2] == register}
    if value is None:
        return not mine
    return any(rows[writes[number]][2:] == (register, value)
               and not any(number in causes(rows, other) for other in mine) for number in had(rows, at, site))


def certificate(rows):
    for at, row in enumerate(rows):
        if row[0] == "read" and not is_causal(rows, at):
            return ("old", at)
    return ("causal",)


def store_of(placement, plan, thing):
    """The store whose history a value is, or the position of the first row that is not possible, None for no tuple."""
    if type(thing) is not tuple:
        return None
    shop = Shop(placement, plan)
    for at, row in enumerate(thing):
        if not can_come(placement, thing[:at], row):
            return at
        if row[0] == "read":
            if at == 0 or thing[at - 1] != ("visit",) + row[1:3] or row[4] != shop.value(row[2], row[3]):
                return at
            shop.got(*row[1:4])
        else:
            if not shop.play.is_possible(row[:3]):
                return at
            shop.do(row[:3], row[3] if row[0] == "write" else None)
    return shop
