"""A second reading of Part 7: rows in dicts by register, elimination by columns with Python's own fractions.

Nothing here uses the package, so that the tests compare two independent answers.
"""

from fractions import Fraction
from itertools import product
from math import gcd

from tests import oracle


def row(placement, edge):
    j, k = edge
    return tuple(int(x in oracle.kept(placement, k)) for x in sorted(oracle.kept(placement, j)))


def rows(placement, edges):
    return [row(placement, edge) for edge in edges]


def solve(lines, goal):
    """Fractions x with the sum of x times the lines equal to the goal; None if there are none.

    One equation for each column; unknowns that stay free are 0.
    """
    table = [[Fraction(line[at]) for line in lines] + [Fraction(goal[at])] for at in range(len(goal))]
    pivots, top = [], 0
    for unknown in range(len(lines)):
        at = next((at for at in range(top, len(table)) if table[at][unknown] != 0), None)
        if at is None:
            continue
        table[top], table[at] = table[at], table[top]
        table[top] = [part / table[top][unknown] for part in table[top]]
        for other in range(len(table)):
            if other != top:
                factor = table[other][unknown]
                table[other] = [one - factor * two for one, two in zip(table[other], table[top])]
        pivots.append(unknown)
        top += 1
    if any(line[-1] != 0 for line in table[top:]):
        return None
    found = [Fraction(0)] * len(lines)
    for at, unknown in enumerate(pivots):
        found[unknown] = table[at][-1]
    return found


def as_pair(part):
    return (part.numerator, part.denominator)


def basis(placement, edges):
    found = []
    for edge in edges:
        if solve(rows(placement, found), row(placement, edge)) is None:
            found.append(edge)
    return tuple(found)


def weights(placement, edges):
    lines = rows(placement, basis(placement, edges))
    return tuple(tuple(as_pair(part) for part in solve(lines, line)) for line in rows(placement, edges))


def count(line, writes):
    return sum(writes[at] for at in range(len(line)) if line[at])


def counts(placement, edges, writes):
    return tuple(count(line, writes) for line in rows(placement, edges))


def follow(placement, edges, told):
    """What follows for all edges from the counts of the basis."""
    return tuple(as_pair(sum((Fraction(*weight) * number for weight, number in zip(line, told)), Fraction(0)))
                 for line in weights(placement, edges))


def is_fraction(thing):
    return (type(thing) is tuple and len(thing) == 2 and all(type(x) is int for x in thing)
            and thing[1] > 0 and gcd(*thing) == 1)


def are_numbers(thing, length):
    return type(thing) is tuple and len(thing) == length and all(type(x) is int and x >= 0 for x in thing)


def edge_holds(placement, site, others, edge, thing):
    """[7.4]"""
    if type(thing) is not tuple or not thing or type(thing[0]) is not str:
        return False
    goal, width = row(placement, edge), len(oracle.kept(placement, site))
    if thing[0] == "told" and len(thing) == 2:
        told = thing[1]
        if type(told) is not tuple or len(told) != len(others) or not all(is_fraction(part) for part in told):
            return False
        return all(sum((Fraction(*part) * line[at] for part, line in zip(told, rows(placement, others))), Fraction(0))
                   == goal[at] for at in range(width))
    if thing[0] == "open" and len(thing) == 3:
        if not all(are_numbers(writes, width) for writes in thing[1:]):
            return False
        one, two = [counts(placement, others + (edge,), writes) for writes in thing[1:]]
        return one[:-1] == two[:-1] and one[-1] != two[-1]
    return False


def has_writes(placement, site, edges, wanted):
    """[7.5], by trying all writes that can matter."""
    lines = rows(placement, edges)
    limit = max(wanted, default=0)
    for writes in product(range(limit + 1), repeat=len(oracle.kept(placement, site))):
        if all(count(line, writes) == number for line, number in zip(lines, wanted)):
            return True
    return False


def counts_hold(placement, site, edges, wanted, thing):
    if type(thing) is not tuple or not thing or type(thing[0]) is not str:
        return False
    if thing[0] == "writes" and len(thing) == 2:
        width = len(oracle.kept(placement, site))
        return are_numbers(thing[1], width) and counts(placement, edges, thing[1]) == wanted
    return thing[0] == "none" and len(thing) == 1 and not has_writes(placement, site, edges, wanted)


def groups(placement, edges):
    """[7.6]"""
    return tuple(sorted({tuple(sorted(other for other in edges if other[0] == edge[0]
                                      and row(placement, other) == row(placement, edge))) for edge in edges}))


def whole(placement, plan):
    return tuple(tuple(edge for edge in oracle.edges_of(placement)
                       if any(edge[0] == other[0] and row(placement, edge) == row(placement, other) for other in line))
                 for line in plan)


def numbers(placement, plan):
    return tuple(len(groups(placement, line)) for line in plan)
