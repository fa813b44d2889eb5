"""What is certain about the order of events (point 9)."""

from partviews.counts import list_events
from partviews.errors import NotUndecided, UnknownEvent
from partviews.joining import find_least_log, require_possible
from partviews.logs import is_integer, is_pair, require_case
from partviews.orders import events_before, least_of_order, order_of


def require_event(order, value):
    """Raise UnknownEvent if a value, any value, is not an event of an order."""
    if not is_pair(value):
        raise UnknownEvent(value)
    # Only values of the right kinds are looked up: True counts as 1, and a list has no hash.
    if not isinstance(value[0], str) or not is_integer(value[1]) or value not in order:
        raise UnknownEvent(value)


def find_before(case):
    """Return what is certainly before each event of what surely is a possible case."""
    return events_before(order_of(case), find_least_log(case))


def leads_to(before, first, second):
    """Tell whether the first event is certainly before the second one."""
    name, k = first
    return k <= before[second][name]


def are_undecided(before, first, second):
    """Tell whether two events are different and neither is certainly before the other one."""
    if first == second:
        return False
    return not leads_to(before, first, second) and not leads_to(before, second, first)


def is_before(case, first, second):
    """Tell whether the first event is certainly before the second one."""
    require_case(case)
    require_possible(case)
    before = find_before(case)
    require_event(before, first)
    require_event(before, second)
    return leads_to(before, first, second)


def find_undecided(case):
    """Return the ascending list of the undecided pairs of what surely is a possible case."""
    before = find_before(case)
    row = list_events(case)
    return [
        (first, second)
        for at, first in enumerate(row)
        for second in row[at + 1:]
        if are_undecided(before, first, second)
    ]


def undecided(case):
    """Return the ascending list of all pairs of undecided events."""
    require_case(case)
    require_possible(case)
    return find_undecided(case)


def least_with(case, first, second):
    """Return the least log that fits in which the first of two undecided events is before the second one."""
    order = order_of(case)
    order[second].append(first)
    return least_of_order(order)


def both_orders(case, first, second):
    """Return the least logs with the first event before the second one and behind it."""
    require_case(case)
    require_possible(case)
    before = find_before(case)
    require_event(before, first)
    require_event(before, second)
    if not are_undecided(before, first, second):
        raise NotUndecided("the order of the events is certain, or they are one event")
    return (least_with(case, first, second), least_with(case, second, first))


def is_settled(case):
    """Tell whether exactly one log fits a case."""
    require_case(case)
    require_possible(case)
    # Two different logs have some two events in different orders.
    return not find_undecided(case)
