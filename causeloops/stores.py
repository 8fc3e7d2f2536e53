"""A working store: values at sites, updates on their way, and clients that go from site to site."""

from causeloops.courses import APPLY, VISIT, WRITE, Course
from causeloops.errors import BadRegister, BadUpdate, BadValue, NotReady
from causeloops.graphs import kept_at
from causeloops.kinds import is_integer, is_tuple_of
from causeloops.needs import check_plan
from causeloops.placements import check_place, check_site, check_visit, is_visit

READ = "read"


class Store:
    """A store for a placement and a plan.

    The course has the counts and the updates; told has the value of each update, held those that the sites have, by
    site and register, and rows the history.
    """

    def __init__(self, placement, plan):
        check_plan(placement, plan)
        self.course = Course(placement, plan)
        self.told = []
        self.held = {}
        self.rows = []

    def __eq__(self, other):
        if not isinstance(other, Store):
            return False
        return self.state() == other.state()

    def state(self):
        """All that stores must have in common to be equal."""
        done = self.course.tallies, self.course.updates, self.told, self.held
        return self.placement(), self.plan(), done, self.waiting()

    def write(self, site, register, value):
        """Let a site write a value; returns the number of the update."""
        self.check_register(site, register)
        check_value(value)
        return self.note_write(site, register, value)

    def waiting(self):
        """The ascending tuple of the pairs of a site and the number of an update that waits there."""
        return self.course.missing()

    def is_ready(self, site, number):
        """Whether an update that waits at a site is ready there."""
        check_site(self.course.layout, site)
        if not self.course.news.is_waiting(site, number):
            raise BadUpdate(number)
        return self.course.can_apply(site, number)

    def apply(self, site, number):
        """Let a site apply an update that waits there and is ready."""
        if not self.is_ready(site, number):
            raise NotReady()
        self.note_apply(site, number)

    def settle(self):
        """Apply all that waits, and return how many pairs that were.

        The first update that waits at a site is always ready there, and applying it changes nothing at other sites:
        so the first pair that is ready is always the first one that waits.
        """
        pairs = self.waiting()
        for site, number in pairs:
            self.note_apply(site, number)
        return len(pairs)

    def value(self, site, register):
        """The value of a register at a site, None if there is none yet."""
        self.check_register(site, register)
        return self.held.get((site, register))

    def can_visit(self, client, site):
        """Whether a client is ready at a site that it visits."""
        check_visit(self.course.layout, client, site)
        return self.course.can_visit(client, site)

    def visit(self, client, site):
        """Let a client visit a site where it is ready."""
        if not self.can_visit(client, site):
            raise NotReady()
        self.note_visit(client, site)

    def read(self, client, site, register):
        """Let a client visit a site, and return the value that it gets there."""
        check_visit(self.course.layout, client, site)
        self.check_register(site, register)
        self.visit(client, site)
        return self.note_read(client, site, register)

    def put(self, client, site, register, value):
        """Let a client write a value at a site; returns the number of the update."""
        check_visit(self.course.layout, client, site)
        self.check_register(site, register)
        check_value(value)
        self.visit(client, site)
        number = self.note_write(site, register, value)
        self.note_visit(client, site)
        return number

    def counts(self, place):
        """The counts of a place."""
        check_place(self.course.layout, place)
        return self.course.tallies[place]

    def placement(self):
        """The placement."""
        return self.course.layout

    def plan(self):
        """The plan."""
        return self.course.counted

    def copy(self):
        """An equal store with the same history that goes on by itself."""
        twin = Store(self.course.layout, self.course.counted)
        for row in list(self.rows):
            twin.repeat(row)
        return twin

    def check_register(self, site, register):
        """Raise the error for the first of the values that is not as it must be."""
        check_site(self.course.layout, site)
        if register not in kept_at(self.course.layout, site):
            raise BadRegister(register)

    def note_write(self, site, register, value):
        """Do a valid write; returns the number of the update."""
        self.course.write(site, register)
        self.told.append(value)
        self.held[(site, register)] = value
        self.rows.append((WRITE, site, register, value))
        return len(self.told) - 1

    def note_apply(self, site, number):
        """Do a valid applying."""
        _, register, _ = self.course.updates[number]
        self.course.apply(site, number)
        self.held[(site, register)] = self.told[number]
        self.rows.append((APPLY, site, number))

    def note_visit(self, client, site):
        """Do a valid visit."""
        self.course.visit(client, site)
        self.rows.append((VISIT, client, site))

    def note_read(self, client, site, register):
        """Note what a client gets that has just visited a site; returns the value."""
        value = self.held.get((site, register))
        self.rows.append((READ, client, site, register, value))
        return value

    def can_repeat(self, thing):
        """Whether any value is a row of a history that is possible now."""
        if is_tuple_of(thing, 4) and thing[0] == WRITE:
            _, site, register, value = thing
            return self.course.can_write(site, register) and is_integer(value)
        if is_tuple_of(thing, 5) and thing[0] == READ:
            return self.has_got(thing)
        return is_tuple_of(thing, 3) and thing[0] != WRITE and self.course.is_possible(thing)

    def has_got(self, thing):
        """Whether a tuple of five items tells what a client gets that has just visited a site."""
        _, client, site, register, value = thing
        if not is_visit(self.course.layout, client, site) or self.rows[-1:] != [(VISIT, client, site)]:
            return False
        if register not in kept_at(self.course.layout, site) or not is_read_value(value):
            return False
        return value == self.held.get((site, register))

    def repeat(self, row):
        """Do what a row of a history tells, which must be possible."""
        if row[0] == WRITE:
            self.note_write(row[1], row[2], row[3])
        elif row[0] == APPLY:
            self.note_apply(row[1], row[2])
        elif row[0] == VISIT:
            self.note_visit(row[1], row[2])
        else:
            self.note_read(row[1], row[2], row[3])


def is_read_value(value):
    """Whether any value is one that can be read."""
    return value is None or is_integer(value)


def check_value(value):
    """Raise BadValue for a value that no register can have."""
    if not is_integer(value):
        raise BadValue(value)
