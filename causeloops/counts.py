"""Counts of the places, by the rules of writing, applying and visiting."""

from causeloops.errors import BadCounts, BadRegister, BadUpdate, NotReady
from causeloops.graphs import kept_at
from causeloops.kinds import are_counts_of, is_tuple_of
from causeloops.needs import check_plan
from causeloops.placements import check_place, check_site, check_visit, is_site
from causeloops.tallies import edges_ahead, is_next, merge_counts, write_counts, zero_counts


def new_counts(placement, plan, place):
    """The counts of a place that has heard nothing."""
    check_plan(placement, plan)
    check_place(placement, place)
    return zero_counts(plan, place)


def are_counts(placement, plan, place, thing):
    """Whether any value is counts of a place."""
    check_plan(placement, plan)
    check_place(placement, place)
    return are_counts_of(thing, len(plan[place]))


def is_update(placement, plan, thing):
    """Whether any value is an update."""
    check_plan(placement, plan)
    return is_update_of(placement, plan, thing)


def is_update_of(placement, plan, thing):
    """Whether any value is an update for a valid plan."""
    if not is_tuple_of(thing, 3):
        return False
    site, register, counts = thing
    if not is_site(placement, site) or register not in kept_at(placement, site):
        return False
    return are_counts_of(counts, len(plan[site]))


def written(placement, plan, place, counts, register):
    """The counts of a site after it has written a register."""
    check_counts_of_site(placement, plan, place, counts)
    if register not in kept_at(placement, place):
        raise BadRegister(register)
    return write_counts(placement, plan, place, counts, register)


def may_apply(placement, plan, place, counts, update):
    """Whether an update is ready at a site."""
    check_applying(placement, plan, place, counts, update)
    return is_next(plan, place, counts, update)


def applied(placement, plan, place, counts, update):
    """The counts of a site after it has applied an update that is ready there."""
    check_applying(placement, plan, place, counts, update)
    if not is_next(plan, place, counts, update):
        raise NotReady()
    source, _, sent = update
    return merge_counts(plan, place, source, counts, sent)


def may_visit(placement, plan, client, site, mine, its):
    """Whether a client is ready at a site that it visits."""
    check_visiting(placement, plan, client, site, mine, its)
    return edges_ahead(plan, client, site, mine, its) == []


def visited(placement, plan, client, site, mine, its):
    """The pair of the counts of a client and a site after a visit that is ready."""
    check_visiting(placement, plan, client, site, mine, its)
    if edges_ahead(plan, client, site, mine, its) != []:
        raise NotReady()
    return merge_counts(plan, client, site, mine, its), merge_counts(plan, site, client, its, mine)


def check_counts(plan, place, counts):
    """Raise BadCounts for a value that is not counts of a place."""
    if not are_counts_of(counts, len(plan[place])):
        raise BadCounts(counts)


def check_counts_of_site(placement, plan, place, counts):
    """Raise the error for the first of the values that is not as it must be."""
    check_plan(placement, plan)
    check_site(placement, place)
    check_counts(plan, place, counts)


def check_applying(placement, plan, place, counts, update):
    """Raise the error for the first of the values that is not as it must be."""
    check_counts_of_site(placement, plan, place, counts)
    if not is_update_of(placement, plan, update):
        raise BadUpdate(update)
    source, register, _ = update
    if source == place or register not in kept_at(placement, place):
        raise BadUpdate(update)


def check_visiting(placement, plan, client, site, mine, its):
    """Raise the error for the first of the values that is not as it must be."""
    check_plan(placement, plan)
    check_visit(placement, client, site)
    check_counts(plan, client, mine)
    check_counts(plan, site, its)
