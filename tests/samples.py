"""Values, families and cases that the tests are made with. The seeds are fixed: each run is the same."""

import copy
import os
import random
import subprocess
import sys

from tests import reference

HERE = os.path.dirname(os.path.dirname(os.path.abspath(__file__)))
NAMES = ('a', 'ab', 'b', 'c', 'd', 'ef', 'x', 'zzzzzzzz')


def deep(core, kind):
    value = core
    for _ in range(8):
        value = kind([value])
    return value


# Any values that are no name set, family, log (but for the empty tuple), view, case or ring.
ODD_VALUES = [
    None, True, False, 0, 1, -1, 7, 10 ** 30, '', 'a', 'ab', 'A b', [], [[]], [()], ((),), ([],),
    (None,), (1,), (True,), ('A',), ('',), ('a', 1), ('a', None), ('a', ('b',)), ['a'], ['a', 'b'],
    (('a',),), (('a', 'b'), 1), ((('a', 'b'),),), [(('a',), ('a',))], ((('a',), ('a',)), 0),
    (1, 2), (0, 0), ([1, 2], (3, 'b')), deep(1, tuple), deep('a', list), deep(None, tuple), (1, 'b', None, [True]),
]


def changed(value):
    """Some values that differ from a tuple or list at one place: removed, repeated, exchanged, replaced."""
    kind = type(value)
    parts = list(value)
    found = [list(parts) if kind is tuple else tuple(parts), parts + [None], [None] + parts]
    for at in range(len(parts)):
        found.append(parts[:at] + parts[at + 1:])
        found.append(parts[:at] + [parts[at]] + parts[at:])
        found.append(parts[:at] + ['A'] + parts[at + 1:])
        found.append(parts[:at] + [(parts[at],)] + parts[at + 1:])
        found.append(parts[:at] + [[parts[at]]] + parts[at + 1:])
        for other in range(at):
            swapped = list(parts)
            swapped[at], swapped[other] = swapped[other], swapped[at]
            found.append(swapped)
    return [found[0]] + [kind(entry) for entry in found[1:]]


GOOD_CASE = ((('a', 'b'), ('a', 'b', 'a')), (('b', 'c'), ('c', 'b')))
RING_CASE = ((('a', 'b'), ('a', 'b')), (('b', 'c'), ('b', 'c')), (('a', 'c'), ('c', 'a')))
RING = [('a', 1, 0), ('b', 1, 1), ('c', 1, 2)]

# What is no case though it nearly is one.
NO_CASES = [value for value in ODD_VALUES] + [
    (),
    ((),),
    ((('a',),),),
    ((('a',), (), ()),),
    ([('a',), ()],),
    [(('a',), ())],
    ((['a'], ()),),
    ((('a',), []),),
    ((('a',), ['a']),),
    ((('a',), 'a'),),
    ((('a',), None),),
    (('a', ()),),
    (('a', 'a'),),
    'ab',
    ('ab', 'ab'),
    (((), ()),),
    ((('a', 'a'), ()),),
    ((('b', 'a'), ()),),
    ((('a', 'B'), ()),),
    ((('a', 1), ()),),
    ((('a', ''), ()),),
    ((('', 'a'), ()),),
    ((('aaaaaaaaa',), ()),),
    ((('a',), ('b',)),),
    ((('a',), ('a', 'b')), (('b',), ('b',))),
    ((('a', 'b'), ('a', 'A')),),
    ((('a',), (1,)),),
    ((('a',), (('a',),)),),
    ((('a',), (['a'],)),),
    ((('a',), ('a',) * 21),),
    ((('a',), ()), (('a',), ('a',) * 21)),
    ((('a', 'b', 'c', 'd', 'e', 'f', 'g'), ()),),
    ((('a',), ()),) * 7,
    ((('a', 'b', 'c'), ()), (('d', 'e', 'f'), ()), (('g', 'h', 'i'), ())),
    ((('a',), ()), None),
    ((('a',), ()), ()),
    GOOD_CASE + (('c',), ('c',)),
    (GOOD_CASE,),
    list(GOOD_CASE),
    tuple(list(pair) for pair in GOOD_CASE),
    tuple((list(names), view) for names, view in GOOD_CASE),
    tuple((names, list(view)) for names, view in GOOD_CASE),
    tuple((view, names) for names, view in GOOD_CASE),
    tuple(names for names, view in GOOD_CASE),
]

NO_FAMILIES = [value for value in ODD_VALUES if value != (('a',),)] + [
    (),
    ((),),
    ('a', 'b'),
    ('ab',),
    'ab',
    [('a',)],
    (['a'],),
    (('a',), ['b']),
    (('a',), 'b'),
    (('a',), ()),
    (('a',), None),
    (('b', 'a'),),
    (('a', 'a'),),
    (('a', 'B'),),
    (('a',), ('b1',)),
    (('a',), (1,)),
    (('aaaaaaaaa',),),
    (('a',),) * 7,
    (('a', 'b', 'c', 'd', 'e', 'f', 'g'),),
    (('a', 'b', 'c'), ('d', 'e', 'f'), ('g', 'h', 'i')),
    ((('a', 'b'),),),
]


def random_family(rng, most_observers=6, most_names=8, most_in_set=6):
    names = sorted(rng.sample(NAMES, rng.randint(1, most_names)))
    family = []
    for _ in range(rng.randint(1, most_observers)):
        size = rng.randint(1, min(most_in_set, len(names)))
        family.append(tuple(sorted(rng.sample(names, size))))
    return tuple(family)


def seen_from(family, log):
    return tuple((names, reference.kept(log, names)) for names in family)


def possible_case(rng, family, length):
    """A case that a log of at most so many names fits."""
    names = sorted({name for known in family for name in known})
    log = []
    room = [20] * len(family)
    for _ in range(rng.randint(0, length)):
        name = rng.choice(names)
        viewers = [at for at, known in enumerate(family) if name in known]
        if all(room[at] for at in viewers):
            log.append(name)
            for at in viewers:
                room[at] -= 1
    return seen_from(family, log)


def twisted(rng, case, times):
    """The case with some neighbours of views exchanged: mostly rings, never count conflicts."""
    views = [list(view) for _, view in case]
    for _ in range(times):
        view = rng.choice(views)
        if len(view) > 1:
            at = rng.randrange(len(view) - 1)
            view[at], view[at + 1] = view[at + 1], view[at]
    return tuple((names, tuple(view)) for (names, _), view in zip(case, views))


def miscounted(rng, case):
    """The case with an event of a view removed or added."""
    at = rng.randrange(len(case))
    names, view = case[at]
    place = rng.randint(0, len(view))
    if len(view) < 20 and (rng.random() < 0.5 or not view):
        other = view[:place] + (rng.choice(names),) + view[place:]
    else:
        other = view[:place] + view[place + 1:]
    return case[:at] + ((names, other),) + case[at + 1:]


def named_cycle(rng, size):
    """A ring of so many names and a family whose name sets make this ring, perhaps with further names."""
    names = rng.sample(NAMES, min(8, size + rng.randint(0, 2)))
    ring = names[:size]
    sets = [{ring[at], ring[(at + 1) % size]} for at in range(size)]
    for name in names[size:]:
        for known in rng.sample(sets, rng.randint(0, 2)):
            known.add(name)
    return ring, tuple(tuple(sorted(known)) for known in sets)


def cycle_family(rng, size):
    family = list(named_cycle(rng, size)[1])
    rng.shuffle(family)
    return tuple(family)


def shuffled_case(rng, family, most):
    """A case without count conflict whose observers have seen their events in any order each."""
    names = sorted({name for known in family for name in known})
    counts = {name: rng.randint(0, most) for name in names}
    views = [[name for name in known for _ in range(counts[name])] for known in family]
    for view in views:
        rng.shuffle(view)
    return tuple((known, tuple(view)) for known, view in zip(family, views))


def crossed_case(rng, size, most):
    """A case in which the observers of a ring of names have seen each name of it before the next one."""
    ring, family = named_cycle(rng, size)
    names = sorted({name for known in family for name in known})
    log = [rng.choice(names) for _ in range(rng.randint(0, most))]
    case = []
    for at, known in enumerate(family):
        first, second = ring[at], ring[(at + 1) % size]
        rest = reference.kept(log, known)
        place = rng.randint(0, len(rest))
        view = rest[:place] + (first, second) + rest[place:]
        case.append((known, view[:20]))
    rng.shuffle(case)
    return tuple(case)


def cases_with_rings(seed, many, most):
    """Cases without count conflict, many of them with rings, also with long ones."""
    rng = random.Random(seed)
    found = []
    while len(found) < many:
        if len(found) % 2:
            case = crossed_case(rng, rng.randint(3, 6), most)
        else:
            case = shuffled_case(rng, cycle_family(rng, rng.randint(3, 6)), 1 + most // 6)
        if not reference.count_conflicts(case):
            found.append(case)
    return found


def random_cases(seed, many, length, **limits):
    """Cases of all kinds: possible ones, with rings, with count conflicts, with both."""
    rng = random.Random(seed)
    found = []
    for at in range(many):
        if at % 3 == 0:
            family = cycle_family(rng, rng.randint(3, 6))
        else:
            family = random_family(rng, **limits)
        case = possible_case(rng, family, length)
        kind = at % 4
        if kind in (1, 3):
            case = twisted(rng, case, rng.randint(1, 4))
        if kind == 2 or kind == 3 and at % 8 == 3:
            case = miscounted(rng, case)
        found.append(case)
    return found


def small_cases():
    return random_cases(11, 240, 8) + cases_with_rings(14, 120, 4)


def large_cases():
    return random_cases(12, 60, 60) + cases_with_rings(15, 40, 25)


def same_again(value):
    """An equal value that shares no tuple and no list with the given one."""
    if isinstance(value, tuple):
        return tuple([same_again(entry) for entry in value])
    if isinstance(value, list):
        return [same_again(entry) for entry in value]
    if isinstance(value, str):
        return ''.join(list(value))
    return value


def lists_in(value):
    found = [value] if isinstance(value, list) else []
    if isinstance(value, (list, tuple)):
        for entry in value:
            found.extend(lists_in(entry))
    return found


def spoil(value):
    for entry in lists_in(value):
        entry.append('spoiled')


def check_new_lists(test, call, *arguments):
    """Each list that a call returns is a new one, and no later call changes it."""
    first = call(*arguments)
    text = copy.deepcopy(first)
    second = call(*arguments)
    test.assertTrue(lists_in(first))
    test.assertFalse([True for one in lists_in(first) for other in lists_in(second) if one is other])
    test.assertEqual(first, text)
    spoil(second)
    test.assertEqual(first, text)
    test.assertEqual(call(*same_again(arguments)), text)
    spoil(first)
    test.assertEqual(call(*arguments), text)


def check_raises(test, error, call, *arguments):
    """A call raises exactly this error and leaves its arguments as they are."""
    before = copy.deepcopy(arguments)
    with test.assertRaises(Exception) as caught:
        call(*arguments)
    test.assertIs(type(caught.exception), error, (call, arguments, caught.exception))
    test.assertEqual(repr(arguments), repr(before))
    return caught.exception


def begun(rng, case):
    """The case with views that end earlier: what fits together still begins together."""
    return tuple((names, view[:rng.randint(0, len(view))]) for names, view in case)


def free_case(rng, family, most):
    """A case of any views of at most so many events."""
    return tuple((names, tuple(rng.choice(names) for _ in range(rng.randint(0, most)))) for names in family)


def waiting_case(rng, size, most):
    """A case in which each observer of a ring of names has seen a name of it and then the next one, or not yet."""
    ring, family = named_cycle(rng, size)
    names = sorted({name for known in family for name in known})
    log = [rng.choice(names) for _ in range(rng.randint(0, most))]
    case = []
    for at, known in enumerate(family):
        view = reference.kept(log, known)[:18] + (ring[at], ring[(at + 1) % size])[:rng.randint(1, 2)]
        case.append((known, view))
    rng.shuffle(case)
    return tuple(case)


def growing_cases(seed, many, length, **limits):
    """Growing cases of all kinds: beginnings of one log, with growing rings, short ones and long ones, any views."""
    rng = random.Random(seed)
    found = []
    for at in range(many):
        if at % 4 == 0:
            found.append(waiting_case(rng, rng.randint(2, 6), length // 2))
            continue
        if at % 8 < 4:
            family = cycle_family(rng, rng.randint(3, 6))
        else:
            family = random_family(rng, **limits)
        case = possible_case(rng, family, length)
        if at % 4 == 2:
            case = twisted(rng, case, rng.randint(1, 3))
        if at % 4 == 3 and rng.random() < 0.5:
            case = free_case(rng, family, min(20, 1 + length // 3))
        found.append(begun(rng, case) if rng.random() < 0.8 else case)
    return found


def small_growing_cases():
    return growing_cases(16, 320, 9)


def large_growing_cases():
    return growing_cases(17, 120, 70) + growing_cases(18, 40, 110)


def full_growing_cases():
    """Cases with views of 20 events each, also with 120 events of one case."""
    rng = random.Random(19)
    names = tuple('abcdef')
    found = [
        tuple((known, (name,) * 20) for known, name in zip([('a',), ('b',), ('c',), ('d',), ('e',), names], 'abcdef')),
        tuple(((name,), (name,) * 20) for name in 'fedcba'),
        tuple((names, (name,) * 20) for name in names),
        tuple((tuple(sorted(pair)), (pair[0],) * 20) for pair in zip('abcdef', 'bcdefa')),
    ]
    for _ in range(12):
        family = random_family(rng, most_in_set=4)
        log = [rng.choice([name for known in family for name in known]) for _ in range(150)]
        case = tuple((known, reference.kept(log, known)[:20]) for known in family)
        found.append(case)
        found.append(twisted(rng, case, 1))
    return found


def other_runs(program):
    """What a program prints in three other runs: Python orders the members of sets by a number of each run."""
    found = []
    for seed in '012':
        run = subprocess.run(
            [sys.executable, '-B', '-c', program], cwd=HERE, capture_output=True, check=True, text=True,
            env=dict(os.environ, PYTHONHASHSEED=seed, PYTHONPATH=os.pathsep.join([HERE] + sys.path)),
        )
        found.append(run.stdout)
    return found
