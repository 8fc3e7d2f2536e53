"""Counts of one site in fewer numbers: rows, ranks and groups of edges, with certificates."""

from causeloops.errors import BadCounts, BadEdge, BadEdges, BadSite
from causeloops.graphs import kept_at
from causeloops.kinds import are_counts_of, is_tuple_of
from causeloops.needs import check_plan
from causeloops.placements import are_edges, check_edge, check_placement, is_edge, is_site
from causeloops.ratios import is_fraction, total_of
from causeloops.rows import groups_of, row_between, whole_of
from causeloops.spans import gap_between, weights_between

TOLD = "told"
OPEN = "open"
WRITES = "writes"
NONE = "none"


def row_of(placement, edge):
    """The row of an edge."""
    check_placement(placement)
    check_edge(placement, edge)
    return row_between(placement, edge)


def basis(placement, site, edges):
    """The tuple of the edges whose row is not a sum of fractions times the rows of the edges before it."""
    check_edges(placement, site, edges)
    return basis_of(placement, edges)


def basis_of(placement, edges):
    """The basis of edges from one site."""
    found = ()
    for edge in edges:
        if weights_between(rows_of(placement, found), row_between(placement, edge)) is None:
            found = found + (edge,)
    return found


def rank(placement, site, edges):
    """The number of the edges in the basis."""
    return len(basis(placement, site, edges))


def weights(placement, site, edges):
    """The tuple of the weights of all edges, in order."""
    check_edges(placement, site, edges)
    return weights_of(placement, edges)


def weights_of(placement, edges):
    """The tuple of the weights of edges from one site."""
    rows = rows_of(placement, basis_of(placement, edges))
    return tuple([weights_between(rows, row) for row in rows_of(placement, edges)])


def packed(placement, site, edges, counts):
    """The tuple of the counts of the basis, from which those of the other edges must follow."""
    check_counted(placement, site, edges, counts)
    chosen = basis_of(placement, edges)
    told = tuple([count for edge, count in zip(edges, counts) if edge in chosen])
    if follow_from(placement, edges, told) != tuple([(count, 1) for count in counts]):
        raise BadCounts(counts)
    return told


def unpacked(placement, site, edges, counts):
    """The tuple of the fractions that follow for all edges from the counts of the basis."""
    check_edges(placement, site, edges)
    if not are_counts_of(counts, len(basis_of(placement, edges))):
        raise BadCounts(counts)
    return follow_from(placement, edges, counts)


def follow_from(placement, edges, told):
    """The tuple of the fractions for edges from one site that follow from what the basis counts."""
    return tuple([total_of(row, told) for row in weights_of(placement, edges)])


def groups(placement, edges):
    """The ascending tuple of the groups of edges."""
    check_placement(placement)
    if not are_edges(placement, edges):
        raise BadEdges(edges)
    return groups_of(placement, edges)


def is_whole(placement, plan):
    """Whether each place that counts an edge counts all edges of its group."""
    return whole(placement, plan) == plan


def whole(placement, plan):
    """The plan in which each place also counts all edges of the groups of those that it counts."""
    check_plan(placement, plan)
    return tuple([whole_of(placement, counted) for counted in plan])


def numbers(placement, plan):
    """The tuple of the numbers of groups that the places count."""
    check_plan(placement, plan)
    return tuple([len(groups_of(placement, counted)) for counted in plan])


def judge_edge(placement, site, others, edge):
    """A certificate: how the count of an edge follows from those of the others, or writes that they do not tell."""
    check_other_edge(placement, site, others, edge)
    rows, goal = rows_of(placement, others), row_between(placement, edge)
    told = weights_between(rows, goal)
    if told is not None:
        return TOLD, told
    gap = gap_between(rows, goal)
    return OPEN, tuple([max(step, 0) for step in gap]), tuple([max(-step, 0) for step in gap])


def edge_holds(placement, site, others, edge, thing):
    """Whether any value is a certificate."""
    check_other_edge(placement, site, others, edge)
    rows, goal = rows_of(placement, others), row_between(placement, edge)
    if is_tuple_of(thing, 2) and thing[0] == TOLD:
        return is_told(rows, goal, thing[1])
    if is_tuple_of(thing, 3) and thing[0] == OPEN:
        return is_open(rows, goal, thing[1], thing[2])
    return False


def is_told(rows, goal, told):
    """Whether any value is fractions by which the rows make the goal."""
    if not is_tuple_of(told, len(rows)) or not all([is_fraction(part) for part in told]):
        return False
    made = [total_of(told, [row[column] for row in rows]) for column in range(len(goal))]
    return made == [(number, 1) for number in goal]


def is_open(rows, goal, one, two):
    """Whether any values are writes for which all rows have equal counts, but the goal has not."""
    if not are_counts_of(one, len(goal)) or not are_counts_of(two, len(goal)):
        return False
    equal = all([count_of(row, one) == count_of(row, two) for row in rows])
    return equal and count_of(goal, one) != count_of(goal, two)


def judge_counts(placement, site, edges, counts):
    """A certificate: writes that have the counts, or that there are none."""
    check_counted(placement, site, edges, counts)
    rows = rows_of(placement, edges)
    columns = [[row[at] for row in rows] for at in range(len(kept_at(placement, site)))]
    writes = find_writes(columns, counts, {})
    return (NONE,) if writes is None else (WRITES, writes)


def counts_hold(placement, site, edges, counts, thing):
    """Whether any value is a certificate."""
    check_counted(placement, site, edges, counts)
    if is_tuple_of(thing, 2) and thing[0] == WRITES:
        writes = thing[1]
        if not are_counts_of(writes, len(kept_at(placement, site))):
            return False
        return counts == tuple([count_of(row, writes) for row in rows_of(placement, edges)])
    return thing == (NONE,) and judge_counts(placement, site, edges, counts) == (NONE,)


def find_writes(columns, counts, hopeless):
    """A tuple with a number for each column, so that each count is the sum of those in its row; None if there is none.

    What was tried in vain is kept in hopeless, as many ways lead to the same counts that are left.
    """
    tried = len(columns), counts
    if tried in hopeless:
        return None
    if not columns:
        return () if counts == (0,) * len(counts) else None
    column, later = columns[0], columns[1:]
    most = min([count for part, count in zip(column, counts) if part], default=0)
    # A count that no later column adds to must be reached here.
    last = [at for at, part in enumerate(column) if part and not any([row[at] for row in later])]
    least = max([counts[at] for at in last], default=0)
    for number in range(most, least - 1, -1):
        left = tuple([count - number * part for part, count in zip(column, counts)])
        rest = find_writes(later, left, hopeless)
        if rest is not None:
            return (number,) + rest
    hopeless[tried] = True
    return None


def rows_of(placement, edges):
    """A list of the rows of edges."""
    return [row_between(placement, edge) for edge in edges]


def count_of(row, writes):
    """The count for writes of the edge with a row."""
    return sum([part * number for part, number in zip(row, writes)])


def check_edges(placement, site, edges):
    """Raise the error for the first of the values that is not as it must be."""
    check_placement(placement)
    if not is_site(placement, site):
        raise BadSite(site)
    if not are_edges(placement, edges) or not all([edge[0] == site for edge in edges]):
        raise BadEdges(edges)


def check_other_edge(placement, site, others, edge):
    """Raise the error for the first of the values that is not as it must be."""
    check_edges(placement, site, others)
    if not is_edge(placement, edge) or edge[0] != site:
        raise BadEdge(edge)


def check_counted(placement, site, edges, counts):
    """Raise the error for the first of the values that is not as it must be."""
    check_edges(placement, site, edges)
    if not are_counts_of(counts, len(edges)):
        raise BadCounts(counts)
