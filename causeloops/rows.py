"""Rows of the edges of a placement that is known to be one, and edges with the same row; nothing is checked here."""

from causeloops.graphs import all_edges, kept_at, shared_by


def row_between(placement, edge):
    """The row of an edge: 1 for each register of its first site that the other one keeps, too, and 0 for the others."""
    site, other = edge
    theirs = kept_at(placement, other)
    return tuple([1 if register in theirs else 0 for register in kept_at(placement, site)])


def source_of(placement, edge):
    """What edges of one group have in common: the site, and the registers that stand for the row."""
    site, other = edge
    return site, shared_by(placement, site, other)


def groups_of(placement, edges):
    """The groups of an ascending tuple of edges."""
    found = {}
    for edge in edges:
        found.setdefault(source_of(placement, edge), []).append(edge)
    return tuple(sorted([tuple(group) for group in found.values()]))


def whole_of(placement, counted):
    """The ascending tuple of all edges that are in one group with one of the edges that a place counts."""
    sources = [source_of(placement, edge) for edge in counted]
    return tuple([edge for edge in all_edges(placement) if source_of(placement, edge) in sources])
