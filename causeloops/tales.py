"""Free histories as they go on: whatever kind of store they come from."""

from causeloops.courses import APPLY, VISIT, WRITE
from causeloops.graphs import kept_at
from causeloops.kinds import is_integer, is_tuple_of
from causeloops.news import News, numbers_of
from causeloops.placements import is_site, is_visit
from causeloops.stores import READ, is_read_value


class Tale:
    """The rows so far of a free history of a valid placement: what was written, and who knows and has it.

    For each update, written has the register and the value; old has the positions of read rows that are not causal.
    """

    def __init__(self, placement):
        self.layout = placement
        self.news = News(placement)
        self.written = []
        self.length = 0
        self.old = []

    def can_tell(self, thing):
        """Whether any value is a row that can come next."""
        if is_tuple_of(thing, 4) and thing[0] == WRITE:
            _, site, register, value = thing
            return self.is_kept(site, register) and is_integer(value)
        if is_tuple_of(thing, 3) and thing[0] == APPLY:
            return is_site(self.layout, thing[1]) and self.news.is_waiting(thing[1], thing[2])
        if is_tuple_of(thing, 3) and thing[0] == VISIT:
            return is_visit(self.layout, thing[1], thing[2])
        if is_tuple_of(thing, 5) and thing[0] == READ:
            _, client, site, register, value = thing
            return is_visit(self.layout, client, site) and self.is_kept(site, register) and is_read_value(value)
        return False

    def is_kept(self, site, register):
        """Whether any values are a site and a register that it keeps."""
        return is_site(self.layout, site) and register in kept_at(self.layout, site)

    def tell(self, row):
        """Go on by a row that can come next."""
        if row[0] == WRITE:
            self.news.write(row[1], row[2])
            self.written.append((row[2], row[3]))
        elif row[0] == APPLY:
            self.news.apply(row[1], row[2])
        elif row[0] == VISIT:
            self.news.visit(row[1], row[2])
        elif not self.is_causal(row):
            self.old.append(self.length)
        self.length += 1

    def is_causal(self, row):
        """Whether a client that reads gets nothing that is older than a cause that it knows."""
        _, client, site, register, value = row
        known = [number for number in numbers_of(self.news.known[client]) if self.written[number][0] == register]
        if value is None:
            return known == []
        covered = 0
        for other in known:
            covered = covered | self.news.causes[other]
        fresh = numbers_of(self.news.had[site] & ~covered)
        return any([self.written[number] == (register, value) for number in fresh])


def tale_of(placement, thing):
    """The tale of a free history of a valid placement; None for any value that is not one."""
    if not isinstance(thing, tuple):
        return None
    tale = Tale(placement)
    for row in thing:
        if not tale.can_tell(row):
            return None
        tale.tell(row)
    return tale
