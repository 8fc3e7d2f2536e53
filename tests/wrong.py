"""Wrong values for the parameters that take any value."""

from causeloops.stores import Store
from tests import oracle, oracle_runs
from tests.samples import JOINED, LINE, THREE, strange_values, told, variants

PARTS = (None, True, False, 0, 1, -1, 99, "a", "b", "A", "", (), [], {}, ("a",), ["a"], ("b", "a"), (0, 1), [0, 1])


def is_valid(thing):
    """A second reading of [1.1]."""
    if type(thing) is not tuple or len(thing) != 2 or type(thing[0]) is not tuple or type(thing[1]) is not tuple:
        return False
    for row in thing[0]:
        if type(row) is not tuple or not all(type(name) is str for name in row) or list(row) != sorted(set(row)):
            return False
        if not all(0 < len(name) < 11 and set(name) <= set("abcdefghijklmnopqrstuvwxyz") for name in row):
            return False
    for row in thing[1]:
        if type(row) is not tuple or not all(type(site) is int for site in row) or list(row) != sorted(set(row)):
            return False
        if len(row) < 2 or row[0] < 0 or row[-1] >= len(thing[0]):
            return False
    return True


def wrong_placements():
    things = strange_values()
    for placement in (LINE, JOINED, THREE):
        things += variants(placement, PARTS)
    return [thing for thing in things if not is_valid(thing)]


def wrong_places(placement):
    count = oracle.places_of(placement)
    things = strange_values() + [count, count + 1, -count, str(count - 1), (count - 1,)]
    return [thing for thing in things if type(thing) is not int or not 0 <= thing < count]


def wrong_edges(placement):
    good = oracle.edges_of(placement)
    things = strange_values() + [(one, other) for one in range(-2, 8) for other in range(-2, 8)]
    for edge in good:
        things += variants(edge, PARTS)
    right = [repr(edge) for edge in good]
    return [thing for thing in things if repr(thing) not in right]


def wrong_sites(placement):
    return wrong_places(placement) + list(range(oracle.sites_of(placement), oracle.places_of(placement)))


def wrong_clients(placement):
    return wrong_places(placement) + list(range(oracle.sites_of(placement)))


def wrong_plans(placement, plan):
    things = strange_values() + variants(plan, PARTS + ((0, 0), ((0, 1),), ((1, 0), (0, 1))))
    return [thing for thing in things if not oracle_runs.is_plan(placement, thing)]


def wrong_counts(plan, place, counts):
    things = strange_values() + variants(counts, PARTS) + [list(counts), counts + (0,), counts[1:]]
    return [thing for thing in things if not oracle_runs.are_counts(plan, place, thing)]


def wrong_runs(placement, plan, run):
    things = strange_values() + variants(run, PARTS + ("write", "apply", "visit"))
    return [thing for thing in things if oracle_runs.play(placement, plan, thing) is None]


def check_errors(test, call, good, wrong):
    """The wrong values of each parameter, in the order in which they are looked at.

    wrong has, for each parameter, its error and its wrong values; the later parameters are right, or they are wrong,
    too, which must not matter. With many values each one is tried in one of these ways.
    """
    for at, (name, error, values) in enumerate(wrong):
        later = {other: things[at % len(things)] for other, _, things in wrong[at + 1:]}
        for number, value in enumerate(values):
            named = {**good, name: value} if number % 2 else {**good, **later, name: value}
            answers = [told(call, **named)] if number % 4 < 2 else [told(call, *named.values())]
            if number < 50:
                right_later = {**good, name: value}
                answers += [told(call, **right_later), told(call, *right_later.values()), told(call, *named.values())]
            for answer in answers:
                test.assertEqual(answer, (error, {"thing": value}), (call.__name__, named))


def is_plain(value):
    """Whether a result consists of integers, strings, bools, None and tuples."""
    return type(value) in (int, str, bool, type(None)) or (type(value) is tuple and all(map(is_plain, value)))


def check_ways_of_calling(test, calls):
    """Each call with right values gives the same answer by position, by name, in any order, and once more."""
    for call, good in calls:
        answer = told(call, *good.values())
        test.assertTrue(is_plain(answer) or isinstance(answer, Store), (call.__name__, answer))
        test.assertFalse(type(answer) is tuple and answer and isinstance(answer[0], type), (call.__name__, answer))
        backwards = {name: good[name] for name in reversed(list(good))}
        for named in (good, backwards, good):
            test.assertEqual(told(call, **named), answer, call.__name__)
