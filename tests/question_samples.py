"""Questions for families that the tests are made with. The seeds are fixed: each run is the same."""

import copy
import random

from partviews.errors import InvalidCase, InvalidFamily, InvalidLog, InvalidNames, InvalidObserver
from partviews.wrongs import InvalidGroup, InvalidQuestion
from tests.growing_reference import names_of
from tests.samples import (
    GOOD_CASE, NO_CASES, NO_FAMILIES, ODD_VALUES, check_raises, cycle_family, random_family, same_again,
)

FAMILY = (('a', 'b'), ('b', 'c'))
LATEST = ((False, True), ((1, 0, 0), (1, 1, 0)))
ODD = ((False, True, True), ((0, 1, 0), (2, 0, 2), (1, 0, 1)))
FIRST_A = ((False, True, False), ((1, 2, 2), (1, 1, 1), (2, 2, 2)))
YES = ((True,), ((0, 0, 0),))
NO = ((False,), ((0, 0, 0),))


def very_deep(core, kind):
    value = core
    for _ in range(16):
        value = kind([value])
    return value


DEEP_VALUES = [
    very_deep(0, tuple), very_deep('a', list), very_deep(None, tuple), very_deep((), list), (very_deep(True, tuple),),
]
ANY_VALUES = ODD_VALUES + DEEP_VALUES
# What is no log of FAMILY, no group of it, no observer, and no names that may be needed.
BAD_LOGS = [value for value in ANY_VALUES if value not in ((), ('a',))] + [
    ['a'], [], 'a', 'abc', 'b', ('d',), ('a', 'x'), ('a', 'A'), ('a', ''), ('ab',), ('a', ('b',)), ('a', ['b']),
    ('a', None), ('a', 0), ('a', True), (('a', 'b'),), ('a', 'b', 'c', 'd'), ('x',) * 130,
]
BAD_GROUPS = [value for value in ANY_VALUES if repr(value) not in ('()', '(1,)')] + [
    [], [0], [0, 1], '', '01', 0, 1, None, (1, 0), (0, 0), (1, 1), (0, 0, 1), (0, 1, 1), (2,), (0, 2), (0, 1, 2),
    (-1,), (-1, 0), (True,), (False,), (False, 1), (0, True), (False, True), ('0',), (0, '1'), (None,), (0, None),
    ((0,),), ((0, 1),), (0, (1,)), ([0],), (0, [1]), (10 ** 30,), (0, 10 ** 30),
]
BAD_OBSERVERS = [value for value in ANY_VALUES if repr(value) not in ('0', '1')] + [
    2, 3, -1, -2, 10 ** 30, True, False, None, '0', '1', '', (0,), [0], (), [], ('a', 'b'),
]
BAD_NEEDS = [value for value in ANY_VALUES if repr(value) != "('a',)"] + [
    (), [], 'a', 'ab', ['a'], ['a', 'b'], ('d',), ('a', 'd'), ('a', 'a'), ('b', 'a'), ('c', 'a'), ('a', 'b', 'c'),
    ('a', None), (None, 'a'), ('a', 1), (0,), (True,), (('a',),), (('a', 'b'),), ('a', ('b',)), ('a', ['b']), ('',),
    ('ab',), ('a', 'bc'), ('A', 'a'),
]


def bad_questions():
    """What is no question for FAMILY though it nearly is one."""
    answers, steps = LATEST
    found = [value for value in ANY_VALUES]
    found += [(), (answers,), (steps,), (steps, answers), LATEST + ((),), LATEST + LATEST, list(LATEST), (LATEST,)]
    found += [(list(answers), steps), (answers, list(steps)), (answers, tuple(list(row) for row in steps))]
    found += [(answers, steps[:1]), (answers, steps + steps[:1]), (answers[:1], steps), (answers + (True,), steps)]
    found += [((), ()), ((), steps), (answers, ()), (True, steps), (answers, 0), (None, steps), (answers, None)]
    for value in ANY_VALUES + [0, 1, 'True', (True,), [False]]:
        if type(value) is not bool:
            found += [((False, value), steps), ((value, True), steps)]
        found += [(value, steps), (answers, value), (answers, (value, steps[1])), (answers, (steps[0], value))]
    for value in ANY_VALUES + [2, -1, 60, 10 ** 30, True, False, None, '0', (0,), [1]]:
        if type(value) is int and 0 <= value < 2:
            continue
        found += [(answers, ((value, 0, 0), steps[1])), (answers, (steps[0], (1, 1, value)))]
        found += [(answers, (steps[0], (1, value, 0)))]
    for row in [(), (0,), (0, 0), (0, 0, 0, 0), '000', 'aaa', [0, 0, 0], None]:
        found += [(answers, (row, steps[1])), (answers, (steps[0], row))]
    found += [((False,) * 61, ((0, 0, 0),) * 61), ((False,) * 60, ((0, 0, 60),) * 60), ((1,), ((0, 0, 0),))]
    return found


def random_question(rng, family, most=6):
    size = rng.randint(1, most)
    names = names_of(family)
    answers = tuple(rng.random() < 0.5 for _ in range(size))
    return (answers, tuple(tuple(rng.randrange(size) for _ in names) for _ in range(size)))


def doubled(rng, question, most=12):
    """A question that is alike to the given one: some states twice, some that no log leads to, in another order."""
    answers, steps = question
    twins = [[state] for state in range(len(answers))]
    row = list(range(len(answers)))
    while len(row) < most and rng.random() < 0.8:
        state = rng.randrange(len(answers))
        twins[state].append(len(row))
        row.append(state)
    table = [[rng.choice(twins[target]) for target in steps[state]] for state in row]
    said = [answers[state] for state in row]
    for _ in range(rng.randint(0, 2)):
        table.append([rng.randrange(len(row)) for _ in steps[0]])
        said.append(rng.random() < 0.5)
    order = list(range(1, len(table)))
    rng.shuffle(order)
    order = [0] + order
    return (
        tuple(said[old] for old in order),
        tuple(tuple(order.index(target) for target in table[old]) for old in order),
    )


def counter(family, name, size):
    """Whether the number of events with a name can be divided by a number."""
    names = names_of(family)
    steps = tuple(tuple((state + (other == name)) % size for other in names) for state in range(size))
    return (tuple(state == 0 for state in range(size)), steps)


def lasso(family, name, tail, cycle):
    """A question that answers yes at the last of so many states, from where a name leads back; it is a least one."""
    size = tail + cycle
    steps = tuple(
        tuple((state + 1 if state + 1 < size else tail) if other == name else state for other in names_of(family))
        for state in range(size)
    )
    return (tuple(state == size - 1 for state in range(size)), steps)


def question_families(rng):
    while True:
        family = random_family(rng, most_names=4) if rng.random() < 0.7 else cycle_family(rng, rng.randint(3, 5))
        yield family


def some_questions(seed, many, most_states=6):
    """Tuples (family, question, other question), also with alike ones, with ones that imply each other, with twins."""
    rng = random.Random(seed)
    families = question_families(rng)
    found = []
    for at in range(many):
        family = next(families)
        question = random_question(rng, family, most_states)
        other = random_question(rng, family, most_states)
        if at % 4 == 1:
            other = doubled(rng, question)
        if at % 4 == 2:
            question, other = doubled(rng, question), doubled(rng, other)
        if at % 8 == 3:
            # The same steps, and yes in more states.
            other = (tuple(said or rng.random() < 0.4 for said in question[0]), question[1])
        found.append((family, question, other))
    return found


WRONG = {
    'f': (InvalidFamily, NO_FAMILIES), 'c': (InvalidCase, NO_CASES), 'q': (InvalidQuestion, bad_questions()),
    'l': (InvalidLog, BAD_LOGS), 'g': (InvalidGroup, BAD_GROUPS), 'h': (InvalidGroup, BAD_GROUPS + [()]),
    'o': (InvalidObserver, BAD_OBSERVERS), 'n': (InvalidNames, BAD_NEEDS),
}
RIGHT = {
    'f': (FAMILY,), 'c': (GOOD_CASE,), 'q': (ODD, LATEST), 'l': (('c', 'a', 'b'), ('b',)), 'g': ((1,), (0, 1), ()),
    'h': ((0, 1), (1,)), 'o': (1, 0), 'n': (('a', 'c'),), 'b': (True,), 'v': (None,),
}


def right_arguments(kinds):
    """Right arguments of the kinds that the letters of WRONG stand for; those of one kind are different ones."""
    return [RIGHT[kind][kinds[:at].count(kind) % len(RIGHT[kind])] for at, kind in enumerate(kinds)]


def check_right_ones(test, call, kinds):
    """A call leaves its arguments as they are, and returns the same once more."""
    arguments = right_arguments(kinds)
    before = copy.deepcopy(arguments)
    first = call(*arguments)
    test.assertEqual(repr(arguments), repr(before))
    test.assertEqual(call(*same_again(arguments)), first)


def check_wrong_ones(test, call, kinds):
    """Each argument is looked at in its place: it alone is wrong, or wrong ones stand behind it, too."""
    right = right_arguments(kinds)
    for at, kind in enumerate(kinds):
        if kind in WRONG:
            error, values = WRONG[kind]
            behind = len(right[at + 1:])
            for value in values:
                found = check_raises(test, error, call, *right[:at], value, *right[at + 1:])
                if error is InvalidObserver:
                    test.assertIs(found.number, value)
                for other in (None, [], 'd'):
                    check_raises(test, error, call, *right[:at], value, *[other] * behind)
