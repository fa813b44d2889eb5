"""Questions about the log (points 22 to 24)."""

from partviews.errors import InvalidLog
from partviews.logs import are_known, is_integer, is_pair, names_of, require_family
from partviews.states import (
    MOST_STATES, classes_by_state, find_parting_log, least_of, question_in, walk_from, walk_of_both,
)
from partviews.wrongs import InvalidQuestion


def are_answers(value):
    """Tell whether a value, any value, is a tuple of 1 to 60 bools."""
    if not isinstance(value, tuple) or not 1 <= len(value) <= MOST_STATES:
        return False
    return all(isinstance(answer, bool) for answer in value)


def is_row(value, many, states):
    """Tell whether a value, any value, is a tuple of so many numbers of one of so many states each."""
    if not isinstance(value, tuple) or len(value) != many:
        return False
    return all(is_integer(state) and 0 <= state < states for state in value)


def is_question(family, value):
    """Tell whether a value, any value, is a question for a family."""
    require_family(family)
    if not is_pair(value) or not are_answers(value[0]):
        return False
    answers, steps = value
    if not isinstance(steps, tuple) or len(steps) != len(answers):
        return False
    many = len(names_of(family))
    return all(is_row(row, many, len(answers)) for row in steps)


def require_question(family, value):
    """Raise InvalidFamily if a value is not a family, InvalidQuestion if another one is not a question for it."""
    if not is_question(family, value):
        raise InvalidQuestion("not a question for the family")


def require_questions(family, question, other):
    """Raise what require_question raises for either of two questions, in their order."""
    require_question(family, question)
    require_question(family, other)


def is_log_of(family, value):
    """Tell whether a value, any value, is a tuple of names of what surely is a family, of any length."""
    return isinstance(value, tuple) and are_known(family, value)


def require_log_of(family, value):
    """Raise InvalidLog if a value, any value, is not a tuple of names of a family, of any length."""
    if not is_log_of(family, value):
        raise InvalidLog("not a tuple of names of the family")


def answer_of(family, question, log):
    """Return the answer of what surely is a question to a log."""
    known = names_of(family)
    answers, steps = question
    state = 0
    for name in log:
        state = steps[state][known.index(name)]
    return answers[state]


def answer_to(family, question, log):
    """Return the answer of a question to a log."""
    require_question(family, question)
    require_log_of(family, log)
    return answer_of(family, question, log)


def least_question(family, question):
    """Return the least question of a question."""
    require_question(family, question)
    return least_of(question)


def are_alike(family, question, other):
    """Tell whether two questions have the same answer to every log."""
    require_questions(family, question, other)
    return least_of(question) == least_of(other)


def parting_log(family, question, other):
    """Return the least log to which two questions have different answers, or None."""
    require_questions(family, question, other)
    return find_parting_log(names_of(family), question, other, (0, 0))


def implies(family, question, other):
    """Tell whether a question implies another one."""
    require_questions(family, question, other)
    places, steps = walk_of_both(question, other)
    return all(other[0][second] or not question[0][state] for state, second in places)


def joint_classes(family, question, other):
    """Return classes of the states of two questions together, or None if the questions are not alike."""
    require_questions(family, question, other)
    if least_of(question) != least_of(other):
        return None
    return classes_by_state(question) + classes_by_state(other)


def both_of(family, question, other):
    """Return the least question that answers yes where two questions do."""
    require_questions(family, question, other)
    one, two = least_of(question), least_of(other)
    places, steps = walk_of_both(one, two, (0, 0), MOST_STATES)
    return question_in([one[0][first] and two[0][second] for first, second in places], steps)


def either_of(family, question, other):
    """Return the least question that answers yes where one of two questions does."""
    require_questions(family, question, other)
    one, two = least_of(question), least_of(other)
    places, steps = walk_of_both(one, two, (0, 0), MOST_STATES)
    return question_in([one[0][first] or two[0][second] for first, second in places], steps)


def opposite_of(family, question):
    """Return the least question that answers yes where a question answers no."""
    require_question(family, question)
    answers, steps = least_of(question)
    return (tuple([not answer for answer in answers]), steps)


def once_step(question):
    """Return the step of walks over tuples (state, whether a question answered yes to some beginning)."""
    answers, steps = question

    def step(place, k):
        state = steps[place[0]][k]
        return (state, place[1] or answers[state])

    return step


def once_of(family, question):
    """Return the least question that answers yes where a question does so to some beginning."""
    require_question(family, question)
    least = least_of(question)
    places, steps = walk_from((0, least[0][0]), len(names_of(family)), once_step(least), MOST_STATES)
    return question_in([once for state, once in places], steps)


def before_step(question):
    """Return the step of walks over tuples (state, answer of a question to the log without its last name)."""
    answers, steps = question
    return lambda place, k: (steps[place[0]][k], answers[place[0]])


def before_of(family, question):
    """Return the least question that answers yes where a question does so to the log without its last name."""
    require_question(family, question)
    places, steps = walk_from((0, False), len(names_of(family)), before_step(least_of(question)), MOST_STATES)
    return question_in([before for state, before in places], steps)


def since_step(question, other):
    """Return the step of walks over tuples (state, other state, whether the question has held since the other one)."""
    answers, steps = question
    others, ways = other

    def step(place, k):
        state, second = steps[place[0]][k], ways[place[1]][k]
        return (state, second, others[second] or (place[2] and answers[state]))

    return step


def since_of(family, question, other):
    """Return the least question that answers yes where a question does so since another one did.

    The other one answers yes to some beginning, and the question to every
    longer beginning of the log.
    """
    require_questions(family, question, other)
    one, two = least_of(question), least_of(other)
    places, steps = walk_from((0, 0, two[0][0]), len(names_of(family)), since_step(one, two), MOST_STATES)
    return question_in([since for state, second, since in places], steps)
