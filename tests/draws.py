"""Plans and runs that are drawn, always in the same way."""

from tests import oracle, oracle_runs
from tests.samples import NAMED, Numbers, drawn_placements


def small_placements():
    """Some dozens of small placements of all kinds."""
    found = list(NAMED)
    found += drawn_placements(12, 31, 3, 3, 0) + drawn_placements(12, 32, 3, 3, 1)
    found += drawn_placements(12, 33, 4, 4, 0) + drawn_placements(12, 34, 4, 4, 1)
    found += drawn_placements(6, 35, 4, 5, 2) + drawn_placements(4, 36, 5, 6, 0) + drawn_placements(4, 37, 3, 3, 3)
    return found


def between(placement, low, high, chances, numbers):
    """A plan with all edges of the low one, and some more of those of the high one."""
    return tuple(tuple(edge for edge in oracle.edges_of(placement)
                       if edge in low[place] or (edge in high[place] and numbers.below(10) < chances))
                 for place in range(oracle.places_of(placement)))


def without_edges(placement, plan, pairs):
    """A plan without some pairs of a place and an edge."""
    return tuple(tuple(edge for edge in row if (place, edge) not in pairs) for place, row in enumerate(plan))


def plans_of(placement, numbers):
    """Plans of all kinds: least, full, own edges alone, between, and with an edge or some left out."""
    least, own = oracle_runs.least(placement), oracle_runs.own(placement)
    full = (oracle.edges_of(placement),) * oracle.places_of(placement)
    found = [least, full, own]
    found += [between(placement, own, full, chances, numbers) for chances in (2, 5, 8)]
    found += [between(placement, own, least, 7, numbers), between(placement, least, full, 4, numbers)]
    can_go = [(place, edge) for place, row in enumerate(least) for edge in row if place not in edge]
    if can_go:
        found += [without_edges(placement, plan, [can_go[numbers.below(len(can_go))]]) for plan in (least, full)]
    return list(dict.fromkeys(found))


def drawn_run(placement, plan, numbers, length, writes=24):
    """A run of at most so many events; what is possible besides writes is often done at once, what is early more so."""
    state, run = oracle_runs.Play(placement, plan), []
    for _ in range(length):
        events = state.events()
        others = [event for event in events if event[0] != "write"]
        if len(state.updates) >= writes or (others and numbers.below(10) < 6):
            events = others
        early = [event for event in events if state.ahead_of(event)]
        if early and numbers.below(10) < 6:
            events = early
        if not events:
            break
        event = events[numbers.below(len(events))]
        state.do(event)
        run.append(event)
    return tuple(run)


def drawn_cases(seed, rounds, length):
    """Placements, plans for them, and runs for these; more for plans that are not enough."""
    numbers = Numbers(seed)
    found = []
    for placement in small_placements():
        for plan in plans_of(placement, numbers):
            poor = bool(oracle_runs.lacking(placement, plan))
            for _ in range(rounds + 2 * poor):
                found.append((placement, plan, drawn_run(placement, plan, numbers, 1 + numbers.below(length))))
    return found


def all_runs(placement, plan, length, writes):
    """Each run of at most so many events and writes, with what there is behind it."""
    found = [((), oracle_runs.Play(placement, plan))]
    for run, state in found:
        if len(run) == length:
            continue
        for event in state.events():
            if event[0] != "write" or len(state.updates) < writes:
                after = state.copy()
                after.do(event)
                found.append((run + (event,), after))
    return found
