"""Point 34 once more, by other means, as in tests/reference.py. Nothing here uses the program.

For each form there is a list of conditions; a condition is looked at only if all before it hold.
"""

from itertools import combinations

from tests import growing_reference as growing
from tests import knowing_reference as knowing
from tests import machine_reference as machine
from tests import need_reference as need
from tests import reference
from tests import table_reference as tables
from tests.growing_reference import family_of, names_of


def is_log(family, value):
    return type(value) is tuple and all(type(name) is str and name in names_of(family) for name in value)


def are_numbers(value, many):
    return type(value) is tuple and len(value) == many and all(
        entry is None or type(entry) is int and entry >= 0 for entry in value)


def is_need(family, value):
    return is_log(family, value) and value in need.looks_of(names_of(family))


def is_observer(family, value):
    return type(value) is int and value in range(len(family))


def cuts_are_known(case, question, value):
    """Whether a value is a table of cuts; the cuts of cases of any size are found by reading the views."""
    names = names_of(family_of(case))
    counts = {}
    left = [((0,) * len(case), (0,) * len(names))]
    while left:
        places, cut = left.pop()
        if cut not in counts:
            counts[cut] = []
            for k, name in enumerate(names):
                moved = reference.step(case, places, name)
                if moved is not None:
                    target = cut[:k] + (cut[k] + 1,) + cut[k + 1:]
                    counts[cut].append((name, target))
                    left.append((moved, target))
    return tables.is_table(family_of(case), question, value, counts, lambda cut: counts[cut])


def last_of(table):
    return max(table)[1]


def answer(family, question, log):
    return machine.answer(family, question, log)


def sets_of(family, names, question, log, sets):
    return [
        lambda: machine.is_question(family, question), lambda: is_log(family, log),
        lambda: knowing.are_known_sets(family, names(), question, log, sets),
        lambda: all(question[0][state] for state in sets[-1]),
    ]


def alike(family, question, other, classes):
    return [
        lambda: machine.is_question(family, question), lambda: machine.is_question(family, other),
        lambda: are_numbers(classes, len(question[0]) + len(other[0])),
        lambda: machine.are_joint_classes(question, other, classes),
    ]


def parted(family, question, other, log):
    return [
        lambda: machine.is_question(family, question), lambda: machine.is_question(family, other),
        lambda: is_log(family, log), lambda: answer(family, question, log) != answer(family, other, log),
    ]


def needed(family, question, names, first, second):
    return [
        lambda: machine.is_question(family, question), lambda: is_need(family, names),
        lambda: is_log(family, first), lambda: is_log(family, second),
        lambda: len({answer(family, question, log) for log in need.two_logs(first, names, second)}) == 2,
    ]


def answered(family, group, question, classes):
    def seen(names):
        return need.sees(family, group, names)

    return [
        lambda: need.is_group(family, group), lambda: machine.is_question(family, question),
        lambda: need.are_classes(question, classes),
        lambda: all(need.is_still(family, question, classes, name) for name in names_of(family) if not seen((name,))),
        lambda: all(need.do_commute(family, question, classes, *pair) for pair in combinations(names_of(family), 2)
                    if seen(pair[:1]) and seen(pair[1:]) and not seen(pair)),
    ]


def unanswered(family, group, question, first, second):
    return [
        lambda: need.is_group(family, group), lambda: machine.is_question(family, question),
        lambda: is_log(family, first), lambda: is_log(family, second),
        lambda: need.look_same(family, group, first, second),
        lambda: answer(family, question, first) != answer(family, question, second),
    ]


def certain(case, question, said, table):
    return [
        lambda: reference.least(case) is not None, lambda: machine.is_question(family_of(case), question),
        lambda: type(said) is bool, lambda: cuts_are_known(case, question, table),
        lambda: {question[0][state] for state in last_of(table)} == {said},
    ]


def chosen(case, question, said, log):
    family = family_of(case)
    return [
        lambda: reference.least(case) is not None, lambda: machine.is_question(family, question),
        lambda: type(said) is bool,
        lambda: is_log(family, log) and all(reference.kept(log, names) == view for names, view in case),
        lambda: answer(family, question, log) is said,
    ]


def forever(case, question, said, table):
    return [
        lambda: growing.growing_log(case) is not None, lambda: machine.is_question(family_of(case), question),
        lambda: type(said) is bool, lambda: tables.is_position_table(case, question, table),
        lambda: {question[0][state] for state in last_of(table)} == {said},
    ]


def turning(case, question, first, second):
    family = family_of(case)
    return [
        lambda: machine.is_question(family, question),
        lambda: is_log(family, first) and growing.begins(case, first),
        lambda: is_log(family, second) and growing.begins(case, second),
        lambda: answer(family, question, first) != answer(family, question, second),
    ]


def known(family, observer, question, log, sets):
    return [lambda: is_observer(family, observer)] + sets_of(
        family, lambda: family[observer], question, log, sets)


def unknown(family, observer, question, log, other):
    return [
        lambda: is_observer(family, observer), lambda: machine.is_question(family, question),
        lambda: is_log(family, log),
        lambda: is_log(family, other) and need.look_same(family, (observer,), log, other),
        lambda: not answer(family, question, other),
    ]


def common(family, group, question, log, sets):
    return [lambda: need.is_group(family, group) and group != ()] + sets_of(
        family, lambda: knowing.common_names(family, group), question, log, sets)


def uncommon(family, group, question, logs):
    def are_near(one, other):
        return any(need.look_same(family, (observer,), one, other) for observer in group)

    return [
        lambda: need.is_group(family, group) and group != (), lambda: machine.is_question(family, question),
        lambda: type(logs) is list and logs != [] and all(is_log(family, log) for log in logs),
        lambda: all(are_near(logs[at - 1], logs[at]) for at in range(1, len(logs))),
        lambda: not answer(family, question, logs[-1]),
    ]


FORMS = [
    alike, parted, needed, answered, unanswered, certain, chosen, forever, turning, known, unknown, common, uncommon,
]
LENGTHS = [5, 5, 6, 5, 6, 5, 5, 5, 5, 6, 6, 6, 5]
OF_CASE = ['certain', 'chosen', 'forever', 'turning']


def judge(record):
    """The result for a record whose second entry is a family or case."""
    form = [form for form in FORMS if form.__name__ == record[0]][0]
    for k, holds in enumerate(form(*record[1:])):
        if not holds():
            return ('wrong', k)
    return ('right',)
