"""Views that do not fit together (point 10)."""

from itertools import combinations

from partviews.errors import InvalidNumber
from partviews.joining import find_least_log
from partviews.logs import MOST_OBSERVERS, is_integer, require_case


def groups_of(case, size):
    """Return the ascending list of the ascending tuples of so many observers of a case."""
    return list(combinations(range(len(case)), size))


def part_of(case, group):
    """Return the case that consists of a group of at least one observer alone."""
    return tuple([case[observer] for observer in group])


def parts_of(case, number):
    """Return the list of the cases of every so many observers, or of all of them if there are fewer."""
    return [part_of(case, group) for group in groups_of(case, min(number, len(case)))]


def require_group_size(value):
    """Raise InvalidNumber if a value, any value, is not an integer from 1 to 6."""
    if not is_integer(value) or not 1 <= value <= MOST_OBSERVERS:
        raise InvalidNumber("not an integer from 1 to 6")


def fits_every(case, number):
    """Tell whether every so many views fit together, or all of them if there are fewer."""
    require_case(case)
    require_group_size(number)
    # A log that fits some views fits each part of them, so smaller groups need no look.
    return all(find_least_log(part) is not None for part in parts_of(case, number))


def contains_any(group, conflicts):
    """Tell whether a group has all observers of one of some conflicts."""
    return any(all(observer in group for observer in conflict) for conflict in conflicts)


def minimal_conflicts(case):
    """Return the list of all minimal conflicts of a case, shorter first."""
    require_case(case)
    found = []
    for size in range(1, len(case) + 1):
        # Groups of one size are not part of each other, so those found before are enough.
        smaller = list(found)
        for group in groups_of(case, size):
            if not contains_any(group, smaller) and find_least_log(part_of(case, group)) is None:
                found.append(group)
    return found
