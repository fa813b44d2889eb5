"""Tables that are changed at one place, for the tests of cuts, positions and records."""

from tests.question_samples import ANY_VALUES


def with_bools(numbers):
    """Tuples of numbers in which one 0 or 1 is replaced by False or True."""
    return [numbers[:at] + (bool(number),) + numbers[at + 1:] for at, number in enumerate(numbers) if number in (0, 1)]


def changed_entries(rng, entry, many):
    """What an entry of a table could be instead, where so many states exist."""
    place, states = entry
    found = [
        [place, states], (list(place), states), (place, list(states)), (states, place), (place,), (place, states, ()),
        (place + (0,), states), (place[:-1], states), (place, states + states[-1:]), (place, states[:-1]),
        (place, states[1:]), (place, ()), (place, states[::-1]), (place, states + (many,)), (place, (-1,) + states),
        (place, tuple(range(many))), (tuple(-number for number in place), states), (None, states), (place, None),
        (tuple(number + 1 for number in place), states), (str(place), states), (place, ('0',)), place, states, None,
    ]
    found += [(changed, states) for changed in with_bools(place)]
    found += [(place, changed) for changed in with_bools(states)]
    extra = rng.randrange(many)
    found.append((place, tuple(sorted(set(states) | {extra}))))
    found.append((place, tuple(state for state in states if state != extra)))
    at = rng.randrange(len(place))
    found.append((place[:at] + (rng.choice([-1, 0, 1, 2, 30, None, 'a', (0,), 10 ** 30]),) + place[at + 1:], states))
    return found


def changed_tables(rng, table, many, most=40):
    """Tables with rows left out, twice, in another order, with one entry changed, and values of other kinds."""
    rows = list(table)
    mixed = list(table)
    rng.shuffle(mixed)
    found = [rows, mixed, rows[::-1], tuple(rows), [], rows + rows, {place: states for place, states in rows}]
    found += [[(place, tuple(range(many))) for place, _ in rows], [rows], [None] + rows, rows + [()]]
    for at in rng.sample(range(len(rows)), min(4, len(rows))):
        found += [rows[:at] + rows[at + 1:], rows[:at] + rows[at:at + 1] + rows[at:], rows + [rows[at]]]
        found += [rows + [(rows[at][0], ())]]
    changes = [(at, entry) for at, row in enumerate(rows) for entry in changed_entries(rng, row, many)]
    for at, entry in rng.sample(changes, min(most, len(changes))):
        found.append(rows[:at] + [entry] + rows[at + 1:])
    return found


def odd_tables():
    return ANY_VALUES + [[], (), [()], [((), ())], [(0, 0)], [((0,), (0,))], [((0, 0), (0,))], [((0, 0, 0), (0,))]]
