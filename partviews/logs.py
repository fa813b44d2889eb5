"""Names, name sets, families, logs and cases (points 4 and 5)."""

from partviews.errors import InvalidCase, InvalidFamily, InvalidLog, InvalidNames, InvalidObserver

MOST_LETTERS = 8
MOST_NAMES_IN_SET = 6
MOST_OBSERVERS = 6
MOST_NAMES_IN_FAMILY = 8
MOST_NAMES_IN_LOG = 120
MOST_NAMES_IN_VIEW = 20


def is_integer(value):
    """Tell whether a value is an int that is not a bool."""
    return isinstance(value, int) and not isinstance(value, bool)


def is_name(value):
    """Tell whether a value, any value, is a name."""
    if not isinstance(value, str) or not 1 <= len(value) <= MOST_LETTERS:
        return False
    return all("a" <= letter <= "z" for letter in value)


def is_name_set(value):
    """Tell whether a value, any value, is a name set."""
    if not isinstance(value, tuple) or not 1 <= len(value) <= MOST_NAMES_IN_SET:
        return False
    # The names are looked at first, for other values need not be comparable.
    if not all(is_name(name) for name in value):
        return False
    return all(low < high for low, high in zip(value, value[1:]))


def names_of(family):
    """Return the ascending list of all names of a family."""
    return sorted({name for names in family for name in names})


def is_family(value):
    """Tell whether a value, any value, is a family."""
    if not isinstance(value, tuple) or not 1 <= len(value) <= MOST_OBSERVERS:
        return False
    if not all(is_name_set(names) for names in value):
        return False
    return len(names_of(value)) <= MOST_NAMES_IN_FAMILY


def is_log(value):
    """Tell whether a value, any value, is a log."""
    if not isinstance(value, tuple) or len(value) > MOST_NAMES_IN_LOG:
        return False
    return all(is_name(name) for name in value)


def is_view(value, names):
    """Tell whether a value, any value, is a view of an observer with this name set."""
    if not isinstance(value, tuple) or len(value) > MOST_NAMES_IN_VIEW:
        return False
    return all(name in names for name in value)


def is_pair(value):
    """Tell whether a value, any value, is a tuple of two entries."""
    return isinstance(value, tuple) and len(value) == 2


def is_observer(observers, value):
    """Tell whether a value, any value, is the number of one of the observers of a family or case."""
    return is_integer(value) and 0 <= value < len(observers)


def is_case(value):
    """Tell whether a value, any value, is a case."""
    if not isinstance(value, tuple) or not all(is_pair(entry) for entry in value):
        return False
    if not is_family(family_of(value)):
        return False
    return all(is_view(view, names) for names, view in value)


def family_of(case):
    """Return the tuple of the name sets of a case."""
    return tuple([names for names, view in case])


def require_family(value):
    """Raise InvalidFamily if a value, any value, is not a family."""
    if not is_family(value):
        raise InvalidFamily("not a family")


def require_log(value):
    """Raise InvalidLog if a value, any value, is not a log."""
    if not is_log(value):
        raise InvalidLog("not a log")


def require_case(value):
    """Raise InvalidCase if a value, any value, is not a case."""
    if not is_case(value):
        raise InvalidCase("not a case")


def require_name_set(value):
    """Raise InvalidNames if a value, any value, is not a name set."""
    if not is_name_set(value):
        raise InvalidNames("not a name set")


def require_observer(observers, value):
    """Raise InvalidObserver if a value, any value, is not the number of one of the observers."""
    if not is_observer(observers, value):
        raise InvalidObserver(value)


def are_known(family, names):
    """Tell whether all of some names belong to a family."""
    known = names_of(family)
    return all(name in known for name in names)


def keep_names(log, names):
    """Return the names of a log that are among some names, in their order."""
    return tuple([name for name in log if name in names])


def restrict(log, names):
    """Return the restriction of a log to a name set."""
    require_log(log)
    require_name_set(names)
    return keep_names(log, names)


def has_views(case, log):
    """Tell whether all views of a case are the restrictions of a log, where nothing is wrong with the arguments."""
    return all(view == keep_names(log, names) for names, view in case)


def fits(case, log):
    """Tell whether a log fits a case."""
    require_case(case)
    require_log(log)
    return are_known(family_of(case), log) and has_views(case, log)
