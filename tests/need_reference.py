"""Points 25 to 27 once more, by other means, as in tests/reference.py. Nothing here uses the program."""

from itertools import combinations

from tests import machine_reference as machine
from tests.growing_reference import names_of
from tests.reference import kept


def two_logs(first, names, second):
    """The two logs whose answers point 25 compares for one or two names."""
    return (first + names + second, first + (names[1:] + names[:1] if len(names) == 2 else ()) + second)


def looks_of(names):
    """All tuples of one name, and then of two."""
    return [(name,) for name in names] + list(combinations(names, 2))


def needs(family, question):
    """All that a question needs, alone and together: what moves a state of the least question to different states."""
    small = machine.least(family, question)
    found = []
    for names in looks_of(names_of(family)):
        one, other = two_logs((), names, ())
        states = range(len(small[0]))
        if [machine.state_behind(family, small, one, state) for state in states] != [
                machine.state_behind(family, small, other, state) for state in states]:
            found.append(names)
    return found


def needs_by_logs(family, question, length):
    """The same for few states, by trying all logs up to a length."""
    logs = machine.logs_up_to(family, length)
    found = []
    for names in looks_of(names_of(family)):
        pairs = (two_logs(first, names, second) for first in logs for second in logs)
        if any(machine.answer(family, question, one) != machine.answer(family, question, other)
               for one, other in pairs):
            found.append(names)
    return found


def are_classes(question, value):
    """Whether a value is classes of a question: twice in a row they are classes of it and itself together."""
    return type(value) is tuple and machine.are_joint_classes(question, question, value + value)


def is_still(family, question, classes, name):
    states = [state for state, number in enumerate(classes) if number is not None]
    return all(classes[machine.next_state(family, question, state, name)] == classes[state] for state in states)


def do_commute(family, question, classes, one, other):
    for state, number in enumerate(classes):
        if number is not None:
            ends = [machine.state_behind(family, question, log, state) for log in ((one, other), (other, one))]
            if classes[ends[0]] != classes[ends[1]]:
                return False
    return True


def is_group(family, value):
    if type(value) is not tuple or any(type(entry) is not int for entry in value):
        return False
    return list(value) == [observer for observer in range(len(family)) if observer in value]


def groups(family):
    return [group for size in range(len(family) + 1) for group in combinations(range(len(family)), size)]


def look_same(family, group, log, other):
    return [kept(log, family[observer]) for observer in group] == [kept(other, family[observer]) for observer in group]


def sees(family, group, names):
    """Whether one observer of a group sees all of some names."""
    return any(set(names) <= set(family[observer]) for observer in group)


def answers(family, group, question):
    return all(sees(family, group, names) for names in needs(family, question))


def is_parted_by_logs(family, group, question, length):
    """Whether two logs up to a length look the same to a group and have different answers, by trying all."""
    told = {}
    for log in machine.logs_up_to(family, length):
        look = tuple(kept(log, family[observer]) for observer in group)
        if told.setdefault(look, machine.answer(family, question, log)) != machine.answer(family, question, log):
            return True
    return False


def least_groups(family, question):
    good = [group for group in groups(family) if answers(family, group, question)]
    return [group for group in good if not any(set(other) < set(group) for other in good)]


def greatest_groups(family, question):
    bad = [group for group in groups(family) if not answers(family, group, question)]
    return [group for group in bad if not any(set(group) < set(other) for other in bad)]


def further_names(family, group, question):
    return tuple(sorted({name for names in needs(family, question) if not sees(family, group, names)
                         for name in names}))


def sees_as_much(family, group, other):
    """By all logs of at most two names, as point 27 says that these are enough."""
    told = {}
    for log in machine.logs_up_to(family, 2):
        look = tuple(kept(log, family[observer]) for observer in group)
        further = tuple(kept(log, family[observer]) for observer in other)
        if told.setdefault(look, further) != further:
            return False
    return True
