"""Points 28 to 30 once more, by other means, as in tests/reference.py. Nothing here uses the program.

Cuts are found by looking at all logs that fit, positions by reading the views side by side.
"""

from itertools import product

from tests import growing_reference as growing
from tests import machine_reference as machine
from tests import reference
from tests.growing_reference import family_of, names_of


def cut_of(case, log):
    return tuple(log.count(name) for name in names_of(family_of(case)))


def cuts(case):
    """All cuts of a possible case with few events: what beginnings of logs that fit have."""
    return sorted({cut_of(case, log[:size]) for log in reference.logs(case) for size in range(len(log) + 1)})


def cut_table(case, question):
    found = {}
    for log in reference.logs(case):
        for size in range(len(log) + 1):
            state = machine.state_behind(family_of(case), question, log[:size])
            found.setdefault(cut_of(case, log[:size]), set()).add(state)
    return [(cut, tuple(sorted(found[cut]))) for cut in sorted(found)]


def cut_moves(case, known):
    """A dict from each cut to the list of (name, cut that it goes on to)."""
    names = names_of(family_of(case))
    found = {}
    for cut in known:
        longer = [cut[:k] + (cut[k] + 1,) + cut[k + 1:] for k in range(len(names))]
        found[cut] = [(name, target) for name, target in zip(names, longer) if target in known]
    return found


def verdict(answers):
    return {frozenset([True]): 'yes', frozenset([False]): 'no', frozenset([True, False]): 'both'}[frozenset(answers)]


def answers(case, question):
    """The answers to all logs that fit a case with few events."""
    return [machine.answer(family_of(case), question, log) for log in reference.logs(case)]


def chosen(case, question, answer):
    family = family_of(case)
    return [log for log in reference.logs(case) if machine.answer(family, question, log) is answer]


def number_of_chosen(case, question, answer):
    """The number of the chosen logs of a possible case of any size."""
    names = names_of(family_of(case))
    end = tuple(len(view) for _, view in case)
    known = {}

    def go(places, state):
        if places == end:
            return question[0][state] is answer
        if (places, state) not in known:
            known[places, state] = 0
            for name in names:
                moved = reference.step(case, places, name)
                if moved is not None:
                    known[places, state] += go(moved, machine.next_state(family_of(case), question, state, name))
        return known[places, state]

    return int(go((0,) * len(case), 0))


def positions(case):
    """All positions of a growing case, also those to which no log leads."""
    return list(product(*[range(len(view) + 1) for _, view in case]))


def position_moves(case, position):
    names = names_of(family_of(case))
    targets = [(name, growing.grown(case, position, name)) for name in names]
    return [(name, target) for name, target in targets if target is not None]


def reached(case, question):
    """A dict from each tuple (position, state) that logs lead to, to one such log."""
    family = family_of(case)
    found = {((0,) * len(case), 0): ()}
    left = list(found)
    while left:
        position, state = left.pop()
        for name, target in position_moves(case, position):
            pair = (target, machine.next_state(family, question, state, name))
            if pair not in found:
                found[pair] = found[position, state] + (name,)
                left.append(pair)
    return found


def reached_positions(case):
    width = len(names_of(family_of(case)))
    return sorted({position for position, _ in reached(case, ((True,), ((0,) * width,)))})


def position_table(case, question):
    pairs = sorted(reached(case, question))
    return [
        (position, tuple(state for place, state in pairs if place == position))
        for position in sorted({position for position, _ in pairs})
    ]


def last_states(case, question):
    end = tuple(len(view) for _, view in case)
    return [state for position, state in sorted(reached(case, question)) if position == end]


def forever(case, question):
    return verdict([question[0][state] for state in last_states(case, question)])


def is_entry(value, places, many):
    """Whether a value is a tuple of one of some places, and of an ascending tuple of numbers of states."""
    if type(value) is not tuple or [type(part) for part in value] != [tuple, tuple]:
        return False
    place, states = value
    if any(type(number) is not int for number in place + states) or place not in places:
        return False
    return list(states) == [state for state in range(many) if state in states]


def is_table(family, question, value, places, moves):
    """Whether a value is a table of some places; moves is a function from each to the list of (name, place)."""
    if type(value) is not list or not all(is_entry(entry, places, len(question[0])) for entry in value):
        return False
    table = {}
    for place, states in value:
        if place in table:
            return False
        table[place] = set(states)
    first = min(places)
    if first not in table or 0 not in table[first]:
        return False
    for place in table:
        for name, target in moves(place):
            wanted = {machine.next_state(family, question, state, name) for state in table[place]}
            if target not in table or wanted - table[target]:
                return False
    return True


def is_cut_table(case, question, value, known=None):
    known = known or cuts(case)
    moves = cut_moves(case, known)
    return is_table(family_of(case), question, value, known, lambda cut: moves[cut])


def is_position_table(case, question, value, known=None):
    known = known or positions(case)
    return is_table(family_of(case), question, value, known, lambda position: position_moves(case, position))
