"""The logs that fit a case and have one answer, by their places (point 29)."""

from partviews.cuts import find_choice
from partviews.errors import InvalidNumber
from partviews.logs import family_of, is_integer
from partviews.machines import require_log_of
from partviews.verdicts import require_asked_case


def count_chosen(case, question, answer):
    """Return the number of the chosen logs."""
    require_asked_case(case, question)
    return find_choice(case, question, answer).many()


def chosen_log(case, question, answer, place):
    """Return the chosen log with a place."""
    require_asked_case(case, question)
    choice = find_choice(case, question, answer)
    if not is_integer(place) or not 0 <= place < choice.many():
        raise InvalidNumber("not a place of a chosen log")
    return choice.log_at(place)


def chosen_place(case, question, answer, log):
    """Return the number of chosen logs that stand before a log in ascending order."""
    require_asked_case(case, question)
    require_log_of(family_of(case), log)
    return find_choice(case, question, answer).place_of(log)
