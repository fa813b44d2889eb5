"""Rings of a case (point 7)."""

from partviews.counts import events_of_view, find_count_conflict, list_events
from partviews.errors import CountConflict
from partviews.logs import is_integer, is_observer, require_case


def is_step(case, value):
    """Tell whether a value, any value, is a tuple (name, k, i) whose observer i has seen (name, k)."""
    if not isinstance(value, tuple) or len(value) != 3:
        return False
    name, k, observer = value
    # True and False count as 1 and 0 in Python's comparisons, but they are not integers here.
    if not isinstance(name, str) or not is_integer(k) or not is_observer(case, observer):
        return False
    return 1 <= k <= case[observer][1].count(name)


def are_steps(case, value):
    """Tell whether a value, any value, is a list of at least two steps with different events."""
    if not isinstance(value, list) or len(value) < 2:
        return False
    if not all(is_step(case, step) for step in value):
        return False
    return len({(name, k) for name, k, observer in value}) == len(value)


def with_following(ring):
    """Return the list of pairs of each entry of a ring with the next one, of the last one with the first one."""
    return list(zip(ring, ring[1:] + ring[:1]))


def leads_on(case, step, following):
    """Tell whether the observer of a step has seen its event before the one of the next step."""
    name, k, observer = step
    row = events_of_view(case[observer][1])
    target = following[:2]
    return target in row and row.index((name, k)) < row.index(target)


def is_ring(case, value):
    """Tell whether a value, any value, is a ring of a case."""
    require_case(case)
    if not are_steps(case, value):
        return False
    return all(leads_on(case, step, following) for step, following in with_following(value))


def later_events(case):
    """Return a dict with the list of tuples (later event, observer that sees both) for each event."""
    later = {event: [] for event in list_events(case)}
    for observer, (names, view) in enumerate(case):
        row = events_of_view(view)
        for at, event in enumerate(row):
            later[event].extend([(target, observer) for target in row[at + 1:]])
    return later


def walk_back(came, start, last):
    """Return the ring that leads from the start to the last step and on to the start."""
    ring = [last]
    event = last[:2]
    while event != start:
        step = came[event]
        ring.append(step)
        event = step[:2]
    return ring[::-1]


def ring_through(later, start):
    """Return a ring through an event with as few steps as possible, or None."""
    came = {}
    row = [start]
    while row:
        reached = []
        for event in row:
            for target, observer in later[event]:
                step = (event[0], event[1], observer)
                if target == start:
                    return walk_back(came, start, step)
                if target not in came:
                    came[target] = step
                    reached.append(target)
        row = reached
    return None


def shortest_of(later):
    """Return a ring through any of some events with as few steps as possible, or None."""
    best = None
    for start in later:
        ring = ring_through(later, start)
        if ring is not None and (best is None or len(ring) < len(best)):
            best = ring
    return best


def shortest_ring(case):
    """Return a ring of a case with as few steps as possible, or None."""
    require_case(case)
    if find_count_conflict(case) is not None:
        raise CountConflict("two observers have seen a name a different number of times")
    return shortest_of(later_events(case))
