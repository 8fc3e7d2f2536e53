"""What was done in stores, and what was seen there."""

from causeloops.errors import BadHistory, BadRows, BadStore
from causeloops.kinds import is_integer
from causeloops.needs import check_plan
from causeloops.news import numbers_of
from causeloops.placements import check_place, check_placement
from causeloops.stores import Store
from causeloops.tales import tale_of

CAUSAL = "causal"
OLD = "old"


def history(store):
    """The tuple of the rows of a store."""
    check_store(store)
    return tuple(store.rows)


def run_of(store):
    """The history of a store without values and without what was read."""
    check_store(store)
    return tuple(store.course.events)


def check_store(store):
    """Raise BadStore for a value that is not a store."""
    if not isinstance(store, Store):
        raise BadStore(store)


def is_history(placement, plan, thing):
    """Whether any value is the history of some store with the placement and the plan."""
    check_plan(placement, plan)
    if not isinstance(thing, tuple):
        return False
    _, at = follow(placement, plan, thing)
    return at is None


def replayed(placement, plan, thing):
    """The store whose history a value is."""
    check_plan(placement, plan)
    if not isinstance(thing, tuple):
        raise BadHistory(None)
    store, at = follow(placement, plan, thing)
    if at is not None:
        raise BadHistory(at)
    return store


def follow(placement, plan, rows):
    """A store that did the rows, up to the first one that is not possible, and the position of this one, or None."""
    store = Store(placement, plan)
    for at, row in enumerate(rows):
        if not store.can_repeat(row):
            return store, at
        store.repeat(row)
    return store, None


def is_free(placement, thing):
    """Whether any value is a free history of the placement."""
    check_placement(placement)
    return tale_of(placement, thing) is not None


def judge_history(placement, rows):
    """The certificate: that nothing old was read, or the first row that did."""
    old = tale_after(placement, rows).old
    return (OLD, old[0]) if old else (CAUSAL,)


def history_holds(placement, rows, thing):
    """Whether any value is the certificate."""
    certificate = judge_history(placement, rows)
    # A bool is equal to an integer, but it is no position.
    return thing == certificate and all([is_integer(item) for item in thing[1:]])


def known_after(placement, rows, place):
    """The ascending tuple of the numbers of the updates that a place knows."""
    tale = tale_after(placement, rows)
    check_place(placement, place)
    return numbers_of(tale.news.known[place])


def tale_after(placement, rows):
    """The tale of a free history; raise the error for the first of the values that is not as it must be."""
    check_placement(placement)
    tale = tale_of(placement, rows)
    if tale is None:
        raise BadRows(rows)
    return tale
