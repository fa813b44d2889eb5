"""Points 22 to 24, 26 and 34 once more, by other means, as in tests/reference.py. Nothing here uses the program."""

from itertools import product

from tests.growing_reference import names_of


def is_question(family, value):
    names = names_of(family)
    if type(value) is not tuple or [type(entry) for entry in value] != [tuple, tuple]:
        return False
    answers, steps = value
    if len(answers) not in range(1, 61) or len(steps) != len(answers):
        return False
    if any(type(answer) is not bool for answer in answers) or any(type(row) is not tuple for row in steps):
        return False
    if any(len(row) != len(names) for row in steps):
        return False
    return all(type(state) is int and state in range(len(answers)) for row in steps for state in row)


def next_state(family, question, state, name):
    return question[1][state][names_of(family).index(name)]


def state_behind(family, question, log, state=0):
    for name in log:
        state = next_state(family, question, state, name)
    return state


def answer(family, question, log):
    return question[0][state_behind(family, question, log)]


def logs_up_to(family, length):
    """All logs of names of the family up to a length, shorter first, and ascending among those of one length."""
    return [log for size in range(length + 1) for log in product(names_of(family), repeat=size)]


def places(names, start, step):
    """A dict from each place that a log leads to, to the least such log, in the order of these logs."""
    found = {start: ()}
    row = [start]
    while row:
        further = []
        for place in row:
            for name in names:
                target = step(place, name)
                if target not in found:
                    found[target] = found[place] + (name,)
                    further.append(target)
        row = further
    return found


def least_reader(names, start, step, answer_at):
    """The least question of what answers at places, from the pairs of places that some log tells apart."""
    found = list(places(names, start, step))
    moves = {p: [step(p, name) for name in names] for p in found}
    back = {}
    for p, q in product(found, repeat=2):
        for pair in zip(moves[p], moves[q]):
            back.setdefault(pair, []).append((p, q))
    apart = {(p, q) for p, q in product(found, repeat=2) if answer_at(p) != answer_at(q)}
    left = list(apart)
    while left:
        for pair in back.get(left.pop(), []):
            if pair not in apart:
                apart.add(pair)
                left.append(pair)
    firsts = [p for at, p in enumerate(found) if all((p, q) in apart for q in found[:at])]

    def number(place):
        return [at for at, p in enumerate(firsts) if (p, place) not in apart][0]

    return (
        tuple(answer_at(p) for p in firsts),
        tuple(tuple(number(place) for place in moves[p]) for p in firsts),
    )


def least(family, question):
    def step(state, name):
        return next_state(family, question, state, name)
    return least_reader(names_of(family), 0, step, lambda state: question[0][state])


def least_by_logs(family, question, length):
    """The least question of a question with few states, from the answers to all logs up to a length."""
    names = names_of(family)
    rests = logs_up_to(family, length)
    looks = [
        tuple(question[0][state_behind(family, question, rest, state)] for rest in rests)
        for state in range(len(question[0]))
    ]
    found = []
    firsts = []
    for log in rests:
        look = looks[state_behind(family, question, log)]
        if look not in found:
            found.append(look)
            firsts.append(log)
    return (
        tuple(answer(family, question, log) for log in firsts),
        tuple(tuple(found.index(looks[state_behind(family, question, log + (name,))]) for name in names)
              for log in firsts),
    )


def is_since(family, question, other, log):
    """Whether other answers yes to some beginning of the log and question to every longer one, by trying all."""
    for size in range(len(log) + 1):
        longer = [log[:end] for end in range(size + 1, len(log) + 1)]
        if answer(family, other, log[:size]) and all(answer(family, question, row) for row in longer):
            return True
    return False


def is_once(family, question, log):
    return any(answer(family, question, log[:size]) for size in range(len(log) + 1))


def is_before(family, question, log):
    return bool(log) and answer(family, question, log[:-1])


def reader(kind, family, questions):
    """What point 24 keeps of a log for one of its kinds: (start, step, answer at a place). It reads least questions."""
    parts = [least(family, question) for question in questions]

    def step(place, name):
        states = tuple(next_state(family, part, state, name) for part, state in zip(parts, place))
        said = [part[0][state] for part, state in zip(parts, states)]
        if kind in ('both', 'either'):
            return states
        if kind == 'once':
            return states + (place[-1] or said[0],)
        if kind == 'before':
            return states + (parts[0][0][place[0]],)
        return states + ((place[-1] and said[0]) or said[1],)

    zeros = (0,) * len(parts)
    if kind == 'both':
        return zeros, step, lambda place: parts[0][0][place[0]] and parts[1][0][place[1]]
    if kind == 'either':
        return zeros, step, lambda place: parts[0][0][place[0]] or parts[1][0][place[1]]
    first = {'once': parts[0][0][0], 'before': False, 'since': parts[-1][0][0]}[kind]
    return zeros + (first,), step, lambda place: place[-1]


def number_of_places(kind, family, questions):
    start, step, _ = reader(kind, family, questions)
    return len(places(names_of(family), start, step))


def made(kind, family, questions):
    start, step, answer_at = reader(kind, family, questions)
    return least_reader(names_of(family), start, step, answer_at)


def parting_log(family, question, other):
    """The least log with different answers, or None: the least logs that lead to all pairs of states are enough."""
    def step(pair, name):
        return (next_state(family, question, pair[0], name), next_state(family, other, pair[1], name))
    found = places(names_of(family), (0, 0), step)
    logs = [log for (p, q), log in found.items() if question[0][p] != other[0][q]]
    return min(logs, key=lambda log: (len(log), log)) if logs else None


def implies(family, question, other):
    def step(pair, name):
        return (next_state(family, question, pair[0], name), next_state(family, other, pair[1], name))
    return not [1 for p, q in places(names_of(family), (0, 0), step) if question[0][p] and not other[0][q]]


def states_behind_logs(family, question):
    return places(names_of(family), 0, lambda state, name: next_state(family, question, state, name))


def classes(family, question):
    """The number of the least question's state for each state to which a log leads, None for all others."""
    small = least(family, question)
    logs = states_behind_logs(family, question)
    return tuple(
        state_behind(family, small, logs[state]) if state in logs else None for state in range(len(question[0]))
    )


def are_joint_classes(question, other, value):
    """Whether a value is classes as in the record "alike"."""
    size = len(question[0])
    if type(value) is not tuple or len(value) != size + len(other[0]):
        return False
    if any(entry is not None and (type(entry) is not int or entry < 0) for entry in value):
        return False
    if value[0] is None or value[0] != value[size]:
        return False
    seen = {}
    for offset, (answers, steps) in ((0, question), (size, other)):
        for state, row in enumerate(steps):
            if value[offset + state] is None:
                continue
            targets = tuple(value[offset + target] for target in row)
            if None in targets:
                return False
            if seen.setdefault(value[offset + state], (answers[state], targets)) != (answers[state], targets):
                return False
    return True
