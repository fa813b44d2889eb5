"""What a question needs, and its classes (points 25 and 26)."""

from itertools import combinations

from partviews.errors import InvalidNames
from partviews.logs import are_known, is_integer, names_of
from partviews.machines import require_question
from partviews.states import classes_by_state, find_parting_log, least_of, log_to


def are_class_numbers(value, many):
    """Tell whether a value, any value, is a tuple of an integer, not less than 0, or None for each of many states."""
    if not isinstance(value, tuple) or len(value) != many:
        return False
    return all(entry is None or (is_integer(entry) and entry >= 0) for entry in value)


def go_alike(answers, steps, classes):
    """Tell whether states with one number have one answer, and next states with one number by each name."""
    looks = {}
    for number, answer, row in zip(classes, answers, steps):
        if number is not None:
            targets = [classes[state] for state in row]
            if None in targets or looks.setdefault(number, (answer, targets)) != (answer, targets):
                return False
    return True


def are_classes_of(question, value):
    """Tell whether a value, any value, is classes of what surely is a question."""
    answers, steps = question
    if not are_class_numbers(value, len(answers)) or value[0] is None:
        return False
    return go_alike(answers, steps, value)


def stands_still(classes, steps, k):
    """Tell whether the name k stands still in classes of states with these steps."""
    return all(number is None or classes[row[k]] == number for number, row in zip(classes, steps))


def commute(classes, steps, k, other):
    """Tell whether the name k and another one commute in classes of states with these steps."""
    return all(
        number is None or classes[steps[row[k]][other]] == classes[steps[row[other]][k]]
        for number, row in zip(classes, steps)
    )


def find_needed_names(family, question):
    """Return the ascending list of the names that what surely is a question needs."""
    classes, steps = classes_by_state(question), question[1]
    return [name for k, name in enumerate(names_of(family)) if not stands_still(classes, steps, k)]


def find_needed_pairs(family, question):
    """Return the ascending list of the pairs of names that what surely is a question needs together."""
    classes, steps = classes_by_state(question), question[1]
    names = names_of(family)
    return [
        (names[k], names[other])
        for k, other in combinations(range(len(names)), 2)
        if not commute(classes, steps, k, other)
    ]


def needed_names(family, question):
    """Return the ascending list of the names that a question needs."""
    require_question(family, question)
    return find_needed_names(family, question)


def needed_pairs(family, question):
    """Return the ascending list of the pairs of names that a question needs together."""
    require_question(family, question)
    return find_needed_pairs(family, question)


def is_need(family, value):
    """Tell whether a value, any value, is an ascending tuple of one or two different names of a family."""
    if not isinstance(value, tuple) or not 1 <= len(value) <= 2 or not are_known(family, value):
        return False
    return len(value) == 1 or value[0] < value[1]


def both_ways(first, names, second):
    """Return two logs: with one or two names between a first and a second one, and without them or turned about."""
    others = names[::-1] if len(names) == 2 else ()
    return (first + names + second, first + others + second)


def state_behind(steps, state, row):
    """Return the state to which some names, by their numbers, lead from a state."""
    for k in row:
        state = steps[state][k]
    return state


def find_need_logs(family, question, names):
    """Return a tuple (first, second) of logs that show that one or two names are needed, or None."""
    known = names_of(family)
    least = least_of(question)
    rows = both_ways((), tuple([known.index(name) for name in names]), ())
    for state in range(len(least[0])):
        pair = tuple([state_behind(least[1], state, row) for row in rows])
        # Different states of a least question have different answers to some log behind them.
        if pair[0] != pair[1]:
            return (log_to(known, least[1], state), find_parting_log(known, least, least, pair))
    return None


def need_logs(family, question, names):
    """Return a tuple (first, second) of logs that show that a question needs one or two names, or None."""
    require_question(family, question)
    if not is_need(family, names):
        raise InvalidNames("not an ascending tuple of one or two different names of the family")
    return find_need_logs(family, question, names)


def classes_of(family, question):
    """Return the least classes of a question."""
    require_question(family, question)
    return classes_by_state(question)


def are_classes(family, question, value):
    """Tell whether a value, any value, is classes of a question."""
    require_question(family, question)
    return are_classes_of(question, value)
