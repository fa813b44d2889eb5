"""The logs that fit a case (point 8)."""

from partviews.counts import find_count_conflict, list_events
from partviews.errors import Impossible, TooLong, TooMany
from partviews.logs import require_case
from partviews.orders import least_of_order, next_names, nothing_taken, order_of

MOST_EVENTS = 12
MOST_LOGS = 200


def find_least_log(case):
    """Return the least log that fits what surely is a case, or None."""
    if find_count_conflict(case) is not None:
        return None
    return least_of_order(order_of(case))


def require_possible(case):
    """Raise Impossible if no log fits what surely is a case."""
    if find_least_log(case) is None:
        raise Impossible("no log fits")


def is_possible(case):
    """Tell whether a case is possible."""
    require_case(case)
    return find_least_log(case) is not None


def least_log(case):
    """Return the least log that fits a case, or None."""
    require_case(case)
    return find_least_log(case)


def require_short(case):
    """Raise TooLong if what surely is a case has too many events."""
    if len(list_events(case)) > MOST_EVENTS:
        raise TooLong("more than 12 events")


def one_more(taken, name):
    """Return how many events were taken when one more with a name is."""
    further = dict(taken)
    further[name] += 1
    return further


def count_of_order(order):
    """Return the number of logs whose events stand in an order."""
    # Beginnings with the same events go on alike, so only their number is kept.
    ways = {tuple(nothing_taken(order).items()): 1}
    for _ in range(len(order)):
        longer = {}
        for key, many in ways.items():
            taken = dict(key)
            for name in next_names(order, taken):
                further = tuple(one_more(taken, name).items())
                longer[further] = longer.get(further, 0) + many
        ways = longer
    return sum(ways.values())


def find_count(case):
    """Return the number of logs that fit what surely is a short case."""
    if find_count_conflict(case) is not None:
        return 0
    return count_of_order(order_of(case))


def count_logs(case):
    """Return the number of logs that fit a case."""
    require_case(case)
    require_short(case)
    return find_count(case)


def logs_of_order(order):
    """Return the ascending list of all logs whose events stand in an order without ring."""
    rows = [((), nothing_taken(order))]
    for _ in range(len(order)):
        rows = [
            (log + (name,), one_more(taken, name))
            for log, taken in rows
            for name in next_names(order, taken)
        ]
    return [log for log, taken in rows]


def find_all_logs(case):
    """Return the ascending list of all logs that fit what surely is a case."""
    require_short(case)
    # The number is looked at first: it is found fast where there are very many logs.
    many = find_count(case)
    if many > MOST_LOGS:
        raise TooMany("more than 200 logs fit")
    if many == 0:
        return []
    return logs_of_order(order_of(case))


def all_logs(case):
    """Return the ascending list of all logs that fit a case."""
    require_case(case)
    return find_all_logs(case)
