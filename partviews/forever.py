"""Verdicts for ever: what the answers to all logs that begin with growing views are (point 30)."""

from partviews.positions import find_positions
from partviews.tables import is_table, least_table, pairs_behind, verdict_at_last, way_to
from partviews.verdicts import require_asked_case


def forever(case, question):
    """Return "yes" or "no" if a question has this answer to all logs that begin with the views, otherwise "both"."""
    require_asked_case(case, question)
    positions, chart = find_positions(case)
    return verdict_at_last(positions, chart, question)


def first_with(positions, pairs, question, answer):
    """Return the least log that begins with the views and has an answer, or None."""
    for pair in pairs:
        if pair[0] == positions.last and question[0][pair[1]] == answer:
            return way_to(positions.names, pairs, pair)
    return None


def turning_logs(case, question):
    """Return two logs that begin with the views, with the answers yes and no, or None."""
    require_asked_case(case, question)
    positions, chart = find_positions(case)
    pairs = pairs_behind(positions, chart, question)
    logs = (first_with(positions, pairs, question, True), first_with(positions, pairs, question, False))
    return None if None in logs else logs


def position_table(case, question):
    """Return the least table of positions, ascending."""
    require_asked_case(case, question)
    positions, chart = find_positions(case)
    return least_table(positions, chart, question)


def is_position_table(case, question, value):
    """Tell whether a value, any value, is a table of positions."""
    require_asked_case(case, question)
    return is_table(find_positions(case)[0], question, value)
