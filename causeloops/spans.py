"""Rows of integers, and the rows that are sums of fractions times others."""

from math import lcm

from causeloops.ratios import NOTHING, UNIT, add_times, inverse_of, product_of, ratio, total_of


def reduce_rows(rows, width):
    """A list of pairs of a column and a line; all lines together have the same sums as the rows.

    A line is a row of fractions with 1 in its own column, where all other lines have 0, and behind it the fractions
    by which the given rows make it.
    """
    waiting = [line_of(row, at, len(rows)) for at, row in enumerate(rows)]
    found = []
    for column in range(width):
        usable = [at for at, other in enumerate(waiting) if other[column] != NOTHING]
        if not usable:
            continue
        chosen = waiting.pop(usable[0])
        factor = inverse_of(chosen[column])
        line = [product_of(factor, part) for part in chosen]
        waiting = [without_column(other, line, column) for other in waiting]
        found = [(place, without_column(other, line, column)) for place, other in found] + [(column, line)]
    return found


def line_of(row, at, count):
    """A row as fractions, with the fractions by which it is made: once itself, of so many rows."""
    return [(number, 1) for number in row] + [UNIT if other == at else NOTHING for other in range(count)]


def without_column(line, other, column):
    """What is left of a line when the other one, as often as its column asks for, is taken away."""
    top, bottom = line[column]
    return add_times(line, (-top, bottom), other)


def weights_between(rows, goal):
    """A tuple of fractions by which the rows make the goal; None if there is none."""
    width = len(goal)
    made = [NOTHING] * (width + len(rows))
    for column, line in reduce_rows(rows, width):
        made = add_times(made, (goal[column], 1), line)
    if made[:width] != [(number, 1) for number in goal]:
        return None
    return tuple(made[width:])


def gap_between(rows, goal):
    """Integers whose products with each row have the sum 0, but not those with the goal.

    The rows must not make the goal: then there are such integers with 1 in one of the columns without a line.
    """
    width = len(goal)
    lines = reduce_rows(rows, width)
    taken = [at for at, _ in lines]
    for free in range(width):
        if free in taken:
            continue
        steps = [UNIT if at == free else NOTHING for at in range(width)]
        for column, line in lines:
            steps[column] = ratio(-line[free][0], line[free][1])
        if total_of(steps, goal) != NOTHING:
            return whole_numbers(steps)
    return None


def whole_numbers(steps):
    """Fractions times the least integer that makes all of them integers."""
    bottom = 1
    for part in steps:
        bottom = lcm(bottom, part[1])
    return [top * (bottom // below) for top, below in steps]
