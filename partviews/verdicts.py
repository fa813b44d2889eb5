"""Verdicts of a case: what the answers to all logs that fit are (point 28)."""

from partviews.cuts import find_choice, find_cuts
from partviews.logs import family_of, require_case
from partviews.machines import require_question
from partviews.tables import is_table, least_table, verdict_at_last


def require_asked_case(case, question):
    """Raise InvalidCase if a value is not a case, InvalidQuestion if another one is not a question for its family."""
    require_case(case)
    require_question(family_of(case), question)


def all_cuts(case):
    """Return the ascending list of the cuts of a case."""
    require_case(case)
    return sorted(find_cuts(case)[1])


def verdict(case, question):
    """Return "yes" or "no" if a question has this answer to all logs that fit a case, otherwise "both"."""
    require_asked_case(case, question)
    cuts, chart = find_cuts(case)
    return verdict_at_last(cuts, chart, question)


def first_log(case, question, answer):
    """Return the first log that fits a case and to which a question has an answer, or None."""
    require_asked_case(case, question)
    choice = find_choice(case, question, answer)
    return choice.log_at(0) if choice.many() > 0 else None


def cut_table(case, question):
    """Return the least table of cuts, ascending."""
    require_asked_case(case, question)
    cuts, chart = find_cuts(case)
    return least_table(cuts, chart, question)


def is_cut_table(case, question, value):
    """Tell whether a value, any value, is a table of cuts."""
    require_asked_case(case, question)
    return is_table(find_cuts(case)[0], question, value)
