"""The judge of records (point 34)."""

from itertools import combinations

from partviews.bare import share
from partviews.cuts import Cuts
from partviews.groups import find_same, is_group, sets_of
from partviews.growing import find_growing_log, has_beginnings
from partviews.joining import find_least_log
from partviews.knowing import are_all_yes, are_known_sets, common_names
from partviews.logs import family_of, has_views, is_observer, names_of, require_case, require_family
from partviews.machines import answer_of, is_log_of, is_question
from partviews.needs import are_class_numbers, are_classes_of, both_ways, commute, go_alike, is_need, stands_still
from partviews.positions import Positions
from partviews.tables import is_table
from partviews.wrongs import NotARecord

# Each function "wrong_.." returns the number of the first condition that does not hold, or None.


def wrong_alike(family, question, other, classes):
    """Look at the entries of a record "alike"."""
    if not is_question(family, question):
        return 0
    if not is_question(family, other):
        return 1
    first = len(question[0])
    if not are_class_numbers(classes, first + len(other[0])):
        return 2
    if classes[0] is None or classes[0] != classes[first]:
        return 3
    # The states of the other question are numbered behind those of the question.
    steps = question[1] + tuple([tuple([first + state for state in row]) for row in other[1]])
    return None if go_alike(question[0] + other[0], steps, classes) else 3


def wrong_parted(family, question, other, log):
    """Look at the entries of a record "parted"."""
    if not is_question(family, question):
        return 0
    if not is_question(family, other):
        return 1
    if not is_log_of(family, log):
        return 2
    return 3 if answer_of(family, question, log) == answer_of(family, other, log) else None


def wrong_needed(family, question, names, first, second):
    """Look at the entries of a record "needed"."""
    if not is_question(family, question):
        return 0
    if not is_need(family, names):
        return 1
    if not is_log_of(family, first):
        return 2
    if not is_log_of(family, second):
        return 3
    one, other = both_ways(first, names, second)
    return 4 if answer_of(family, question, one) == answer_of(family, question, other) else None


def keeps_still(family, group, classes, steps):
    """Tell whether each name that belongs to no name set of a group stands still in classes."""
    seen = sets_of(family, group)
    return all([
        share(seen, (name,)) or stands_still(classes, steps, k) for k, name in enumerate(names_of(family))
    ])


def keeps_apart(family, group, classes, steps):
    """Tell whether each two names that no observer of a group sees together commute in classes.

    Names that a group does not see at all may be among them: they stand
    still, as was looked at before, and so they commute with all others.
    """
    seen = sets_of(family, group)
    names = names_of(family)
    return all([
        share(seen, (names[k], names[other])) or commute(classes, steps, k, other)
        for k, other in combinations(range(len(names)), 2)
    ])


def wrong_answered(family, group, question, classes):
    """Look at the entries of a record "answered"."""
    if not is_group(family, group):
        return 0
    if not is_question(family, question):
        return 1
    if not are_classes_of(question, classes):
        return 2
    if not keeps_still(family, group, classes, question[1]):
        return 3
    return None if keeps_apart(family, group, classes, question[1]) else 4


def wrong_unanswered(family, group, question, first, second):
    """Look at the entries of a record "unanswered"."""
    if not is_group(family, group):
        return 0
    if not is_question(family, question):
        return 1
    if not is_log_of(family, first):
        return 2
    if not is_log_of(family, second):
        return 3
    if not find_same(family, group, first, second):
        return 4
    return 5 if answer_of(family, question, first) == answer_of(family, question, second) else None


def wrong_table(places, question, answer, table):
    """Look at the last conditions of a record with a table of places, where the question is one."""
    if not isinstance(answer, bool):
        return 2
    if not is_table(places, question, table):
        return 3
    last = dict(table)[places.last]
    return None if all([question[0][state] == answer for state in last]) else 4


def wrong_certain(case, question, answer, table):
    """Look at the entries of a record "certain"."""
    if find_least_log(case) is None:
        return 0
    if not is_question(family_of(case), question):
        return 1
    return wrong_table(Cuts(case), question, answer, table)


def wrong_chosen(case, question, answer, log):
    """Look at the entries of a record "chosen"."""
    family = family_of(case)
    if find_least_log(case) is None:
        return 0
    if not is_question(family, question):
        return 1
    if not isinstance(answer, bool):
        return 2
    if not is_log_of(family, log) or not has_views(case, log):
        return 3
    return None if answer_of(family, question, log) == answer else 4


def wrong_forever(case, question, answer, table):
    """Look at the entries of a record "forever"."""
    if find_growing_log(case) is None:
        return 0
    if not is_question(family_of(case), question):
        return 1
    return wrong_table(Positions(case), question, answer, table)


def wrong_turning(case, question, first, second):
    """Look at the entries of a record "turning"."""
    family = family_of(case)
    if not is_question(family, question):
        return 0
    if not is_log_of(family, first) or not has_beginnings(case, first):
        return 1
    if not is_log_of(family, second) or not has_beginnings(case, second):
        return 2
    return 3 if answer_of(family, question, first) == answer_of(family, question, second) else None


def wrong_sets(family, names, question, log, sets):
    """Look at the last conditions of a record with known sets of some names."""
    if not is_question(family, question):
        return 1
    if not is_log_of(family, log):
        return 2
    if not are_known_sets(family, names, question, log, sets):
        return 3
    return None if are_all_yes(question, sets[-1]) else 4


def wrong_known(family, observer, question, log, sets):
    """Look at the entries of a record "known"."""
    if not is_observer(family, observer):
        return 0
    return wrong_sets(family, family[observer], question, log, sets)


def wrong_unknown(family, observer, question, log, other):
    """Look at the entries of a record "unknown"."""
    if not is_observer(family, observer):
        return 0
    if not is_question(family, question):
        return 1
    if not is_log_of(family, log):
        return 2
    if not is_log_of(family, other) or not find_same(family, (observer,), log, other):
        return 3
    return 4 if answer_of(family, question, other) else None


def is_some_group(family, value):
    """Tell whether a value, any value, is a group of a family, but not ()."""
    return is_group(family, value) and len(value) > 0


def wrong_common(family, group, question, log, sets):
    """Look at the entries of a record "common"."""
    if not is_some_group(family, group):
        return 0
    return wrong_sets(family, common_names(family, group), question, log, sets)


def look_same_to_one(family, group, log, other):
    """Tell whether two logs look the same to some observer of a group alone."""
    return any(find_same(family, (observer,), log, other) for observer in group)


def wrong_uncommon(family, group, question, logs):
    """Look at the entries of a record "uncommon"."""
    if not is_some_group(family, group):
        return 0
    if not is_question(family, question):
        return 1
    if not isinstance(logs, list) or not logs or not all(is_log_of(family, log) for log in logs):
        return 2
    if not all(look_same_to_one(family, group, log, other) for log, other in zip(logs, logs[1:])):
        return 3
    return 4 if answer_of(family, question, logs[-1]) else None


OF_FAMILY = {
    "alike": wrong_alike, "parted": wrong_parted, "needed": wrong_needed, "answered": wrong_answered,
    "unanswered": wrong_unanswered, "known": wrong_known, "unknown": wrong_unknown, "common": wrong_common,
    "uncommon": wrong_uncommon,
}
OF_CASE = {
    "certain": wrong_certain, "chosen": wrong_chosen, "forever": wrong_forever, "turning": wrong_turning,
}
LENGTHS = {
    "alike": 5, "parted": 5, "needed": 6, "answered": 5, "unanswered": 6, "certain": 5, "chosen": 5, "forever": 5,
    "turning": 5, "known": 6, "unknown": 6, "common": 6, "uncommon": 5,
}


def require_record(value):
    """Raise NotARecord if a value, any value, has not the form of a record."""
    if not isinstance(value, tuple) or not value or not isinstance(value[0], str):
        raise NotARecord("not a tuple that begins with a string")
    if LENGTHS.get(value[0]) != len(value):
        raise NotARecord("not one of the thirteen records with its number of entries")


def judge(record):
    """Return ("right",), or ("wrong", k) with the number k of the first condition that does not hold."""
    require_record(record)
    kind, *entries = record
    if kind in OF_CASE:
        require_case(entries[0])
        look = OF_CASE[kind]
    else:
        require_family(entries[0])
        look = OF_FAMILY[kind]
    wrong = look(*entries)
    return ("right",) if wrong is None else ("wrong", wrong)
