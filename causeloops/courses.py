"""Runs as they go on: the counts of all places, the updates, and what is known of them."""

from causeloops.graphs import count_places, kept_at
from causeloops.kinds import is_tuple_of
from causeloops.news import News
from causeloops.placements import is_site, is_visit
from causeloops.tallies import edges_ahead, is_next, merge_counts, write_counts, zero_counts

WRITE = "write"
APPLY = "apply"
VISIT = "visit"


class Course:
    """The events so far of a run for a valid placement and plan, and what came of them.

    For each event, ahead has the bits of the updates that it should have come after, 0 if it is not early.
    """

    def __init__(self, placement, plan):
        self.layout = placement
        self.counted = plan
        self.tallies = [zero_counts(plan, place) for place in range(count_places(placement))]
        self.updates = []
        self.news = News(placement)
        self.events = []
        self.ahead = []

    def is_possible(self, thing):
        """Whether any value is an event that is possible now."""
        if not is_tuple_of(thing, 3):
            return False
        word, one, other = thing
        if word == WRITE:
            return self.can_write(one, other)
        if word == APPLY:
            return self.can_apply(one, other)
        return word == VISIT and self.can_visit(one, other)

    def can_write(self, site, register):
        """Whether any values are a site and a register that it keeps."""
        return is_site(self.layout, site) and register in kept_at(self.layout, site)

    def can_apply(self, site, number):
        """Whether any values are a site and the number of an update that is ready there and that it lacks."""
        if not is_site(self.layout, site) or not self.news.is_waiting(site, number):
            return False
        return is_next(self.counted, site, self.tallies[site], self.updates[number])

    def can_visit(self, client, site):
        """Whether any values are a client and a site that it visits and where it is ready."""
        if not is_visit(self.layout, client, site):
            return False
        return edges_ahead(self.counted, client, site, self.tallies[client], self.tallies[site]) == []

    def do(self, event):
        """Do an event that is possible."""
        word, one, other = event
        if word == WRITE:
            self.write(one, other)
        elif word == APPLY:
            self.apply(one, other)
        else:
            self.visit(one, other)

    def write(self, site, register):
        """Let a site write a register that it keeps."""
        counts = write_counts(self.layout, self.counted, site, self.tallies[site], register)
        self.record((WRITE, site, register), 0)
        self.tallies[site] = counts
        self.updates.append((site, register, counts))
        self.news.write(site, register)

    def apply(self, site, number):
        """Let a site apply an update that is ready there."""
        source, _, sent = self.updates[number]
        self.record((APPLY, site, number), self.news.lacked(site, self.news.causes[number]))
        self.tallies[site] = merge_counts(self.counted, site, source, self.tallies[site], sent)
        self.news.apply(site, number)

    def visit(self, client, site):
        """Let a client visit a site where it is ready."""
        mine, its = self.tallies[client], self.tallies[site]
        self.record((VISIT, client, site), self.news.lacked(site, self.news.known[client]))
        self.tallies[client] = merge_counts(self.counted, client, site, mine, its)
        self.tallies[site] = merge_counts(self.counted, site, client, its, mine)
        self.news.visit(client, site)

    def record(self, event, lacked):
        """Note an event, with the bits of the updates that it should have come after."""
        self.events.append(event)
        self.ahead.append(lacked)

    def first_early(self):
        """The position of the first early event, None if there is none."""
        found = [at for at, lacked in enumerate(self.ahead) if lacked]
        return found[0] if found else None

    def missing(self):
        """The ascending tuple of the pairs of a site and an update whose register it keeps and that it lacks."""
        sites = range(len(self.layout[0]))
        return tuple([(site, number) for site in sites for number in self.news.missing_at(site)])


def course_of(placement, plan, thing):
    """The course of a run for a valid placement and plan; None for any value that is not such a run."""
    if not isinstance(thing, tuple):
        return None
    course = Course(placement, plan)
    for event in thing:
        if not course.is_possible(event):
            return None
        course.do(event)
    return course
