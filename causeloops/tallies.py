"""Counts of places for a valid plan: written, compared and merged; nothing is checked here."""

from causeloops.graphs import kept_at


def zero_counts(plan, place):
    """The counts of a place that has heard nothing."""
    return (0,) * len(plan[place])


def write_counts(placement, plan, site, counts, register):
    """The counts of a site after it has written a register that it keeps."""
    others = [other for other in range(len(placement[0])) if other != site]
    sent = [(site, other) for other in others if register in kept_at(placement, other)]
    return tuple([count + 1 if edge in sent else count for edge, count in zip(plan[site], counts)])


def merge_counts(plan, one, other, mine, theirs):
    """The counts of one place after it has heard those of another one."""
    heard = dict(zip(plan[other], theirs))
    return tuple([max(count, heard.get(edge, 0)) for edge, count in zip(plan[one], mine)])


def edges_ahead(plan, place, site, theirs, its):
    """The edges to a site of which a place counts more than the site itself, which counts all of them."""
    counted = dict(zip(plan[site], its))
    return [edge for edge, count in zip(plan[place], theirs) if edge[1] == site and count > counted[edge]]


def is_next(plan, site, counts, update):
    """Whether an update of another site is ready at a site that keeps its register."""
    source, _, sent = update
    edge = (source, site)
    if edges_ahead(plan, source, site, sent, counts) != [edge]:
        return False
    return sent[plan[source].index(edge)] == counts[plan[site].index(edge)] + 1
