"""Places that logs lead to, and the questions that are made of them.

A place is what is kept of a log while it is read: a state of a question, or a
tuple of states and bools. A walk is a tuple (places, steps): the list of all
places that logs lead to, in the order of the least logs that lead to them, and
a tuple that has, for each place, the tuple of the numbers of its next places,
by each name in ascending order.
"""

from partviews.errors import TooMany

MOST_STATES = 60


def walk_from(start, many, step, most=None):
    """Return the walk from a first place by so many names, where step(place, k) is the next place by the name k.

    Raise TooMany as soon as there are more places than the greatest number that may be, if it is given.
    """
    numbers = {start: 0}
    places = [start]
    steps = []
    while len(steps) < len(places):
        targets = [step(places[len(steps)], k) for k in range(many)]
        for target in targets:
            if target not in numbers:
                numbers[target] = len(places)
                places.append(target)
        if most is not None and len(places) > most:
            raise TooMany("logs lead to too many places")
        steps.append(tuple([numbers[target] for target in targets]))
    return (places, tuple(steps))


def walk_of(question):
    """Return the walk through the states of a question."""
    steps = question[1]
    return walk_from(0, len(steps[0]), lambda state, k: steps[state][k])


def walk_of_both(question, other, start=(0, 0), most=None):
    """Return the walk from a pair of states of two questions for one family; most is as in walk_from."""
    steps, others = question[1], other[1]
    return walk_from(start, len(steps[0]), lambda pair, k: (steps[pair[0]][k], others[pair[1]][k]), most)


def log_to(names, steps, number):
    """Return the least log that leads to the place with a number in a walk by these names."""
    log = ()
    while number > 0:
        # In a walk the first place that goes on to another one is on the least way to it.
        before = min([at for at, row in enumerate(steps) if number in row])
        log = (names[steps[before].index(number)],) + log
        number = before
    return log


def find_parting_log(names, question, other, start):
    """Return the least log that has different answers from the two states of a pair on, or None."""
    places, steps = walk_of_both(question, other, start)
    for number, (state, second) in enumerate(places):
        if question[0][state] != other[0][second]:
            return log_to(names, steps, number)
    return None


def numbered(values):
    """Return the list that has, for each of some values, the number of different values before its first equal one."""
    numbers = {}
    for value in values:
        if value not in numbers:
            numbers[value] = len(numbers)
    return [numbers[value] for value in values]


def classes_in(answers, steps):
    """Return the list of the numbers of the least question's states for the places of a walk with these answers."""
    classes = numbered(answers)
    many = 0
    # Places are told apart by their answers, and then by next places that are told apart already.
    while max(classes) >= many:
        many = max(classes) + 1
        classes = numbered([
            (number, tuple([classes[target] for target in row])) for number, row in zip(classes, steps)
        ])
    return classes


def question_in(answers, steps):
    """Return the least question that has these answers at the places of a walk."""
    classes = classes_in(answers, steps)
    firsts = [classes.index(number) for number in range(max(classes) + 1)]
    return (
        tuple([answers[place] for place in firsts]),
        tuple([tuple([classes[target] for target in steps[place]]) for place in firsts]),
    )


def least_of(question):
    """Return the least question of what surely is a question."""
    places, steps = walk_of(question)
    return question_in([question[0][state] for state in places], steps)


def classes_by_state(question):
    """Return the tuple with the number of the least question's state for each state, None where no log leads."""
    places, steps = walk_of(question)
    classes = classes_in([question[0][state] for state in places], steps)
    known = dict(zip(places, classes))
    return tuple([known.get(state) for state in range(len(question[0]))])
