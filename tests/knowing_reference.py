"""Points 31 and 32 once more, by other means, as in tests/reference.py. Nothing here uses the program."""

from itertools import combinations

from tests import machine_reference as machine
from tests.growing_reference import names_of
from tests.reference import kept


def with_hidden(family, names, question, states):
    """Some states, and all to which names lead from them that are not among the names."""
    found = set(states)
    while True:
        more = {
            machine.next_state(family, question, state, name)
            for state in found for name in names_of(family) if name not in names
        }
        if more <= found:
            return frozenset(found)
        found |= more


def further(family, names, question, states, name):
    return with_hidden(
        family, names, question, {machine.next_state(family, question, state, name) for state in states})


def known_sets(family, names, question, log):
    found = [with_hidden(family, names, question, {0})]
    for name in kept(log, names):
        found.append(further(family, names, question, found[-1], name))
    return [tuple(sorted(states)) for states in found]


def are_known_sets(family, names, question, log, value):
    """Whether a value is known sets: a list of tuples of which each has all that the least sets ask from it."""
    view = kept(log, names)
    if type(value) is not list or len(value) != len(view) + 1:
        return False
    for states in value:
        if type(states) is not tuple or any(type(state) is not int for state in states):
            return False
        if list(states) != [state for state in range(len(question[0])) if state in states]:
            return False
    wanted = {0}
    for at, states in enumerate(value):
        if not set(states) >= with_hidden(family, names, question, wanted | set(states)):
            return False
        if at < len(view):
            wanted = {machine.next_state(family, question, state, view[at]) for state in states}
    return True


def is_known(family, names, question, log):
    return all(question[0][state] for state in known_sets(family, names, question, log)[-1])


def is_known_by_logs(family, names, question, log, length):
    """Whether all logs up to a length with the same restriction are answered yes, by trying all."""
    return all(
        machine.answer(family, question, other) for other in machine.logs_up_to(family, length)
        if kept(other, names) == kept(log, names)
    )


def knower(family, names, question):
    """What "knows" keeps of a log: (start, step, answer at a place), by the least question."""
    small = machine.least(family, question)

    def step(states, name):
        return further(family, names, small, states, name) if name in names else states

    return with_hidden(family, names, small, {0}), step, lambda states: all(small[0][state] for state in states)


def number_of_sets(family, names, question):
    start, step, _ = knower(family, names, question)
    return len(machine.places(names_of(family), start, step))


def number_of_own_sets(family, names, question):
    """The same by the states of the question itself, which do not count."""
    def step(states, name):
        return further(family, names, question, states, name) if name in names else states

    return len(machine.places(names_of(family), with_hidden(family, names, question, {0}), step))


def knows(family, names, question):
    """The least question of what an observer of these names knows, or None if there are too many last tuples."""
    if number_of_sets(family, names, question) > 60:
        return None
    start, step, answer_at = knower(family, names, question)
    return machine.least_reader(names_of(family), start, step, answer_at)


def everyone(family, group, question):
    """The least question of what everyone knows, or None if there are too many of something on the way."""
    found = [knows(family, family[observer], question) for observer in group]
    if None in found:
        return None
    made = found[0]
    for other in found[1:]:
        if machine.number_of_places('both', family, (made, other)) > 60:
            return None
        made = machine.made('both', family, (made, other))
    return made


def common_names(family, group):
    return tuple(name for name in names_of(family) if all(name in family[observer] for observer in group))


def depth(family, group):
    wanted = common_names(family, group)
    sizes = [size for size in range(len(group) + 1) for part in combinations(group, size)
             if common_names(family, part) == wanted]
    return sizes[0]


def is_told_by_logs(family, group, question, log, times, length):
    """Whether all logs up to a length to which so many steps lead are answered yes, by trying all logs.

    A step leads to a log that looks the same to some observer of the group.
    """
    logs = machine.logs_up_to(family, length)
    reached = {log}
    for _ in range(times):
        looks = [{kept(other, family[observer]) for other in reached} for observer in group]
        reached = {
            other for other in logs
            if any(kept(other, family[observer]) in seen for observer, seen in zip(group, looks))
        }
    return all(machine.answer(family, question, other) for other in reached)
