"""What integers, names, pairs and ascending tuples are."""

LONGEST_NAME = 10


def is_integer(thing):
    """Whether any value is an integer; a bool is none."""
    return isinstance(thing, int) and not isinstance(thing, bool)


def is_below(thing, limit):
    """Whether any value is an integer from 0 on and below the limit."""
    return is_integer(thing) and 0 <= thing < limit


def are_counts_of(thing, length):
    """Whether any value is a tuple of exactly this many integers from 0 on."""
    return is_tuple_of(thing, length) and all([is_integer(item) and item >= 0 for item in thing])


def is_name(thing):
    """Whether any value is a string of 1 to 10 letters from a to z."""
    if not isinstance(thing, str) or not 1 <= len(thing) <= LONGEST_NAME:
        return False
    return all(["a" <= letter <= "z" for letter in thing])


def is_tuple_of(thing, length):
    """Whether any value is a tuple of exactly this length."""
    return isinstance(thing, tuple) and len(thing) == length


def is_ascending(items):
    """Whether items that can be compared are sorted, and none stands twice."""
    return all([one < other for one, other in zip(items, items[1:])])


def are_names_ascending(thing):
    """Whether any value is an ascending tuple of names."""
    return isinstance(thing, tuple) and all([is_name(item) for item in thing]) and is_ascending(thing)


def are_below(thing, limit):
    """Whether any value is a tuple of integers from 0 on and below the limit."""
    return isinstance(thing, tuple) and all([is_below(item, limit) for item in thing])


def are_below_ascending(thing, limit):
    """Whether any value is an ascending tuple of integers from 0 on and below the limit."""
    return are_below(thing, limit) and is_ascending(thing)
