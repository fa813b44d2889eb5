"""Count conflicts and events (point 6)."""

from partviews.logs import family_of, names_of, require_case


def times_seen(case, name):
    """Return the list of tuples (observer, how often its view has the name) of all who see it."""
    return [(at, view.count(name)) for at, (names, view) in enumerate(case) if name in names]


def find_count_conflict(case):
    """Return the least count conflict of what surely is a case, or None."""
    for name in names_of(family_of(case)):
        counts = times_seen(case, name)
        # If any two counts differ, then one of them differs from the first one.
        first, many = counts[0]
        for at, other in counts:
            if other != many:
                return (name, first, at)
    return None


def count_conflict(case):
    """Return the least count conflict of a case, or None."""
    require_case(case)
    return find_count_conflict(case)


def list_events(case):
    """Return the ascending list of the events of what surely is a case."""
    found = []
    for name in names_of(family_of(case)):
        most = max([many for at, many in times_seen(case, name)])
        found.extend([(name, k) for k in range(1, most + 1)])
    return found


def events(case):
    """Return the ascending list of the events of a case."""
    require_case(case)
    return list_events(case)


def events_of_view(view):
    """Return the list of the events that a view shows, in their order."""
    return [(name, view[:at + 1].count(name)) for at, name in enumerate(view)]
