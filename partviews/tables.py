"""Places where not every name leads on, and tables of the states that belong to them (points 28 and 30).

The places, cuts or positions, are described by an object with the attributes
first and last, which are places, and the methods is_place(value) and
moves(place). A move is a tuple (k, place): the name k, in ascending order,
leads to this place. A chart is a dict with the list of moves for each place.
"""

from partviews.errors import TooMany
from partviews.logs import is_integer, is_pair


def came_from(start, moves, most=None):
    """Return a dict with (place before, k) of the last move of the least way to each place that moves lead to.

    The first place has None; the places stand in the order of their least
    ways. Raise TooMany if there are more than a number that may be given.
    """
    came = {start: None}
    places = [start]
    at = 0
    while at < len(places):
        place = places[at]
        row = moves(place)
        for k, target in row:
            if target not in came:
                came[target] = (place, k)
                places.append(target)
        if most is not None and len(places) > most:
            raise TooMany("there are too many places")
        at += 1
    return came


def way_to(names, came, place):
    """Return the log of the least way to a place."""
    log = []
    while came[place] is not None:
        place, k = came[place]
        log.append(names[k])
    return tuple(log[::-1])


def chart_of(places, most):
    """Return the chart of the places that moves lead to, or raise TooMany if there are more than a number."""
    return {place: places.moves(place) for place in came_from(places.first, places.moves, most)}


def pairs_behind(places, chart, question):
    """Return what came_from returns for the tuples (place, state) to which logs lead."""
    steps = question[1]
    return came_from(
        (places.first, 0), lambda pair: [(k, (target, steps[pair[1]][k])) for k, target in chart[pair[0]]]
    )


def least_table(places, chart, question):
    """Return the least table, ascending."""
    table = {place: [] for place in sorted(chart)}
    for place, state in pairs_behind(places, chart, question):
        table[place].append(state)
    return [(place, tuple(sorted(states))) for place, states in table.items()]


def are_states(value, many):
    """Tell whether a value, any value, is an ascending tuple of different numbers of one of so many states each."""
    if not isinstance(value, tuple) or not all(is_integer(state) and 0 <= state < many for state in value):
        return False
    return all(low < high for low, high in zip(value, value[1:]))


def is_entry(places, many, value):
    """Tell whether a value, any value, is a tuple of a place and of numbers of so many states."""
    return is_pair(value) and places.is_place(value[0]) and are_states(value[1], many)


def leads_within(places, steps, table, place):
    """Tell whether a table, as a dict, has the places to which one of its places goes on, with all next states."""
    for k, target in places.moves(place):
        if target not in table:
            return False
        if not all(steps[state][k] in table[target] for state in table[place]):
            return False
    return True


def is_table(places, question, value):
    """Tell whether a value, any value, is a table of places and of states of what surely is a question."""
    answers, steps = question
    if not isinstance(value, list) or not all(is_entry(places, len(answers), entry) for entry in value):
        return False
    table = {place: states for place, states in value}
    if len(table) < len(value) or 0 not in table.get(places.first, ()):
        return False
    return all(leads_within(places, steps, table, place) for place in table)


def verdict_of(said):
    """Return the verdict that some answers make, at least one."""
    if all(said):
        return "yes"
    return "both" if any(said) else "no"


def verdict_at_last(places, chart, question):
    """Return the verdict that the answers at the last place make."""
    pairs = pairs_behind(places, chart, question)
    return verdict_of([question[0][state] for place, state in pairs if place == places.last])
