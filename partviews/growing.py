"""Views that still grow (points 15 and 16)."""

from partviews.counts import events_of_view, list_events
from partviews.logs import are_known, family_of, keep_names, require_case, require_log
from partviews.orders import least_of_order, order_of
from partviews.rings import are_steps, later_events, shortest_of, with_following


def has_beginnings(case, log):
    """Tell whether all views are beginnings of the restrictions of a log, where nothing is wrong with the arguments."""
    return all(view == keep_names(log, names)[:len(view)] for names, view in case)


def begins(case, log):
    """Tell whether a log begins with the views of a case."""
    require_case(case)
    require_log(log)
    return are_known(family_of(case), log) and has_beginnings(case, log)


def missed_of(row, names, view):
    """Return the list of those of some events whose names are among some names and that a view does not show."""
    return [(name, k) for name, k in row if name in names and k > view.count(name)]


def growing_order(case):
    """Return the order that the views of what surely is a case give to its events if they can still grow."""
    order = order_of(case)
    row = list_events(case)
    for names, view in case:
        # What an observer has not seen yet it can only see behind its whole view.
        if view:
            last = (view[-1], view.count(view[-1]))
            for event in missed_of(row, names, view):
                order[event].append(last)
    return order


def find_growing_log(case):
    """Return the growing log of what surely is a case, or None."""
    return least_of_order(growing_order(case))


def growing_log(case):
    """Return the growing log of a case, or None."""
    require_case(case)
    return find_growing_log(case)


def grows_on(case, step, following):
    """Tell whether the observer of a step sees the next step's name, and its event later or not yet."""
    name, k, observer = step
    names, view = case[observer]
    target = following[:2]
    row = events_of_view(view)
    if target not in row:
        return target[0] in names
    return row.index((name, k)) < row.index(target)


def is_growing_ring(case, value):
    """Tell whether a value, any value, is a growing ring of a case."""
    require_case(case)
    if not are_steps(case, value):
        return False
    return all(grows_on(case, step, following) for step, following in with_following(value))


def growing_later(case):
    """Return what later_events returns, with the events that an observer misses behind all that it has seen."""
    later = later_events(case)
    row = list_events(case)
    for observer, (names, view) in enumerate(case):
        missed = missed_of(row, names, view)
        for event in events_of_view(view):
            later[event].extend([(target, observer) for target in missed])
    return later


def growing_ring(case):
    """Return a growing ring of a case with as few steps as possible, or None."""
    require_case(case)
    return shortest_of(growing_later(case))


def find_missing(case):
    """Return the list of the lists of the events that each observer of what surely is a case misses."""
    row = list_events(case)
    return [missed_of(row, names, view) for names, view in case]


def missing(case):
    """Return a list with the ascending list of the events that it misses for each observer of a case."""
    require_case(case)
    return find_missing(case)
