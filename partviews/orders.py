"""The order that the views of a case give to its events.

An order is a dict that has, for each event in ascending order, a list of
events that stand before it; what else is before it follows from these lists.
How far a log has come is told by a dict that has, for each name, how many
events with it were taken.
"""

from partviews.counts import events_of_view, list_events


def order_of(case):
    """Return the order of what surely is a case: in each view each event stands before the next one."""
    order = {event: [] for event in list_events(case)}
    for names, view in case:
        row = events_of_view(view)
        for earlier, later in zip(row, row[1:]):
            order[later].append(earlier)
    return order


def nothing_taken(order):
    """Return the dict that has 0 for each name of an order."""
    return {name: 0 for name, k in order}


def is_next(order, taken, name):
    """Tell whether the next event with a name may follow on those that were taken."""
    event = (name, taken[name] + 1)
    if event not in order:
        return False
    return all(k <= taken[earlier] for earlier, k in order[event])


def next_names(order, taken):
    """Return the ascending list of the names whose next event may follow on those that were taken."""
    return [name for name in taken if is_next(order, taken, name)]


def least_of_order(order):
    """Return the least log whose events stand in an order, or None if the order has a ring."""
    taken = nothing_taken(order)
    log = []
    while len(log) < len(order):
        names = next_names(order, taken)
        if not names:
            return None
        # Whatever follows here can be completed, so the least name is right at each place.
        log.append(names[0])
        taken[names[0]] += 1
    return tuple(log)


def events_before(order, log):
    """Return, for each event, a dict that tells how many events of each name are certainly before it.

    The log is one whose events stand in the order. All events with one name
    are certainly in a row, so their number tells which ones they are.
    """
    before = {}
    taken = nothing_taken(order)
    for name in log:
        taken[name] += 1
        event = (name, taken[name])
        counts = nothing_taken(order)
        for earlier in order[event]:
            counts[earlier[0]] = max(counts[earlier[0]], earlier[1])
            for other, many in before[earlier].items():
                counts[other] = max(counts[other], many)
        before[event] = counts
    return before
