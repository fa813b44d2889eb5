"""What a further observer could tell about a possible case (point 19)."""

from itertools import combinations

from partviews.errors import InvalidNames
from partviews.joining import find_all_logs, require_possible
from partviews.logs import are_known, family_of, keep_names, names_of, require_case, require_name_set


def require_names_of(case, value):
    """Raise InvalidNames if a value, any value, is not a name set of names that observers of a case see."""
    require_name_set(value)
    if not are_known(family_of(case), value):
        raise InvalidNames("no observer sees one of the names")


def logs_left(logs, names):
    """Return the dict that has, for each restriction of some logs to some names, of how many logs it is one."""
    left = {}
    for log in logs:
        view = keep_names(log, names)
        left[view] = left.get(view, 0) + 1
    return left


def possible_views(case, names):
    """Return the ascending list of tuples (view, number of logs left), one for each possible view."""
    require_case(case)
    require_names_of(case, names)
    require_possible(case)
    left = logs_left(find_all_logs(case), names)
    return sorted(left.items())


def worst_number(logs, names):
    """Return the greatest number of some logs that have the same restriction to some names."""
    left = logs_left(logs, names)
    return max(left.values())


def best_pair(case):
    """Return the least pair of names with the least worst number, or None if the case is settled."""
    require_case(case)
    require_possible(case)
    logs = find_all_logs(case)
    if len(logs) == 1:
        return None
    known = names_of(family_of(case))
    number, best = min([(worst_number(logs, pair), pair) for pair in combinations(known, 2)])
    return best
