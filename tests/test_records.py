"""Point 34 and partviews/records.py."""

import copy
import random
import unittest

from partviews import chosen, forever, groups, knowing, machines, needs, verdicts
from partviews.errors import InvalidCase, InvalidFamily, TooMany
from partviews.growing import growing_log
from partviews.joining import least_log
from partviews.logs import restrict
from partviews.records import judge
from partviews.wrongs import NotARecord
from tests import need_reference
from tests import record_reference as reference
from tests import table_reference as tables
from tests.growing_reference import family_of, names_of
from tests.question_samples import (
    ANY_VALUES, BAD_GROUPS, BAD_LOGS, BAD_NEEDS, BAD_OBSERVERS, FAMILY, FIRST_A, LATEST, NO, ODD, YES, bad_questions,
    counter, doubled, random_question, some_questions,
)
from tests.samples import GOOD_CASE, NO_CASES, NO_FAMILIES, RING_CASE, check_raises, same_again
from tests.table_samples import changed_tables, odd_tables
from tests.test_forever import BEHIND, CROSSED, EXACTLY_1000, FIRST, LAST, MORE_THAN_1000, one_by_one
from tests.test_forever import some_cases as growing_cases
from tests.test_verdicts import MORE_THAN_300
from tests.test_verdicts import some_cases as possible_cases

SMALL_ODD = ((False, True), ((0, 1, 0), (1, 0, 1)))
NEVER_A = ((True, False), ((1, 0, 0), (1, 1, 1)))
SETS = [(0,), (0,), (0,)]
# A right record of each form.
RIGHT = {
    'alike': ('alike', FAMILY, ODD, SMALL_ODD, (0, 1, 1, 0, 1)),
    'parted': ('parted', FAMILY, LATEST, ODD, ('a',)),
    'needed': ('needed', FAMILY, LATEST, ('a', 'c'), ('b',), ('b', 'b')),
    'answered': ('answered', FAMILY, (1,), ODD, (0, 1, 1)),
    'unanswered': ('unanswered', FAMILY, (0, 1), LATEST, ('a', 'c'), ('c', 'a')),
    'certain': ('certain', GOOD_CASE, LATEST, True, verdicts.cut_table(GOOD_CASE, LATEST)),
    'chosen': ('chosen', GOOD_CASE, FIRST_A, False, ('c', 'a', 'b', 'a')),
    'forever': ('forever', BEHIND, FIRST, True, forever.position_table(BEHIND, FIRST)),
    'turning': ('turning', BEHIND, LAST, ('a', 'b', 'a'), ('a', 'b')),
    'known': ('known', FAMILY, 0, NEVER_A, ('c', 'b', 'c', 'b'), SETS),
    'unknown': ('unknown', FAMILY, 0, LATEST, ('a', 'b'), ('a', 'b', 'c')),
    'common': ('common', FAMILY, (0, 1), SMALL_ODD, ('a', 'b', 'c'), [(0,), (1,)]),
    'uncommon': ('uncommon', FAMILY, (0, 1), NEVER_A, [('b', 'c'), ('a', 'b', 'c')]),
}
# What the entries of each form are, behind the first one.
KINDS = {
    'alike': 'fqqv', 'parted': 'fqql', 'needed': 'fqnll', 'answered': 'fgqv', 'unanswered': 'fgqll',
    'certain': 'cqbv', 'chosen': 'cqbl', 'forever': 'cqbv', 'turning': 'cqll', 'known': 'foqlv', 'unknown': 'foqll',
    'common': 'fhqlv', 'uncommon': 'fhqv',
}
BAD = {
    'q': bad_questions(), 'l': BAD_LOGS, 'g': BAD_GROUPS, 'h': BAD_GROUPS + [()], 'o': BAD_OBSERVERS, 'n': BAD_NEEDS,
    'b': [value for value in ANY_VALUES if type(value) is not bool] + ['True', (True,), [False], 2],
}
# The number of the condition about each entry behind the second one: possible cases and growing logs come first.
PLACES = {
    'alike': (0, 1, 2), 'parted': (0, 1, 2), 'needed': (0, 1, 2, 3), 'answered': (0, 1, 2),
    'unanswered': (0, 1, 2, 3), 'certain': (1, 2, 3), 'chosen': (1, 2, 3), 'forever': (1, 2, 3),
    'turning': (0, 1, 2), 'known': (0, 1, 2, 3), 'unknown': (0, 1, 2, 3), 'common': (0, 1, 2, 3),
    'uncommon': (0, 1, 2),
}
# The forms whose questions have three names behind this case are read with a question that has two.
TWO_NAMES = ('forever', 'turning')


def is_bad(form, kind, value):
    """Whether a value is wrong in a form, for its question may be one for a family of two names."""
    if kind == 'q' and form in TWO_NAMES:
        return not reference.machine.is_question(family_of(BEHIND), value)
    if kind == 'l' and form in TWO_NAMES:
        return not reference.is_log(family_of(BEHIND), value)
    return True


class RecordCase(unittest.TestCase):

    def check(self, record):
        """Compare with the reference; the record does not change, and an equal one has the same result."""
        before = copy.deepcopy(record)
        found = judge(record)
        self.assertEqual(found, reference.judge(record), record)
        self.assertEqual(repr(record), repr(before))
        self.assertEqual(judge(same_again(record)), found)
        return found

    def right(self, *record):
        self.assertEqual(self.check(record), ('right',), record)

    def wrong(self, k, *record):
        self.assertEqual(self.check(record), ('wrong', k), record)


class FormTest(RecordCase):

    def test_right_ones(self):
        self.assertEqual(sorted(RIGHT), sorted(form.__name__ for form in reference.FORMS))
        for record in RIGHT.values():
            self.right(*record)

    def test_each_entry(self):
        for form, record in RIGHT.items():
            for at, (kind, k) in enumerate(zip(KINDS[form][1:], PLACES[form]), 2):
                for value in BAD.get(kind, []):
                    if is_bad(form, kind, value):
                        self.wrong(k, *record[:at], value, *record[at + 1:])
                        self.wrong(k, *record[:at], value, *[None] * len(record[at + 1:]))

    def test_any_values_at_the_end(self):
        for form, record in RIGHT.items():
            for value in ANY_VALUES + odd_tables() + [True, 0, '', 'a', ['a'], [('a',)], [[]], [None], [(0,)]]:
                self.check(record[:-1] + (value,))

    def test_alike(self):
        for classes in [(0, 1, 1, 0, 1), (5, 0, 0, 5, 0), (0, 1, 2, 0, 1), (0, 1, 1, 0, 1, 0), (0, 1, 1, 0)]:
            self.check(('alike', FAMILY, ODD, SMALL_ODD, classes))
        self.right('alike', FAMILY, ODD, SMALL_ODD, (5, 0, 0, 5, 0))
        for classes in [(0, 1, 2, 0, 1), (0, 1, 1, 1, 0), (0, 1, 1, 2, 3), (0, None, None, 0, None), (None,) * 5]:
            self.wrong(3, 'alike', FAMILY, ODD, SMALL_ODD, classes)
        for classes in [(0, 1, 1, 0), (0, 1, 1, 0, 1, 1), (), [0, 1, 1, 0, 1], (0, 1, 1, 0, True), (0, 1, 1, False, 1),
                        (0, -1, -1, 0, -1), (0, '1', '1', 0, '1'), None, (0, (1,), (1,), 0, (1,))]:
            self.wrong(2, 'alike', FAMILY, ODD, SMALL_ODD, classes)
        spare = ((False, True, True), ((2, 0, 0), (0, 1, 1), (2, 2, 0)))
        self.right('alike', FAMILY, spare, LATEST, (0, None, 1, 0, 1))
        self.right('alike', FAMILY, spare, LATEST, (0, 7, 1, 0, 1))
        self.right('alike', FAMILY, LATEST, spare, (0, 1, 0, None, 1))
        self.wrong(3, 'alike', FAMILY, spare, LATEST, (None, 0, 1, 0, 1))
        # Each question has classes of its own, but the first states have different numbers.
        self.wrong(3, 'alike', FAMILY, LATEST, ODD, (0, 1, 2, 3, 3))
        self.wrong(3, 'alike', FAMILY, LATEST, LATEST, (0, 1, 1, 0))
        self.wrong(3, 'alike', FAMILY, LATEST, LATEST, (None, None, None, None))
        self.right('alike', FAMILY, YES, YES, (3, 3))
        self.wrong(3, 'alike', FAMILY, YES, NO, (3, 3))

    def test_parted(self):
        self.wrong(3, 'parted', FAMILY, LATEST, ODD, ())
        self.wrong(3, 'parted', FAMILY, LATEST, ODD, ('a', 'b'))
        self.right('parted', FAMILY, LATEST, ODD, ('c',) + ('a', 'b', 'b') * 50)

    def test_needed(self):
        self.right('needed', FAMILY, LATEST, ('a',), (), ())
        self.right('needed', FAMILY, LATEST, ('c',), ('a',), ('b',))
        self.wrong(4, 'needed', FAMILY, LATEST, ('c',), (), ())
        self.wrong(4, 'needed', FAMILY, LATEST, ('b',), ('a',), ())
        self.wrong(4, 'needed', FAMILY, LATEST, ('a', 'c'), (), ('a',))
        self.wrong(4, 'needed', FAMILY, LATEST, ('a', 'b'), (), ())
        self.right('needed', FAMILY, FIRST_A, ('a', 'b'), (), ('c',) * 200)
        # Two names are turned about, one name is left out.
        self.wrong(4, 'needed', FAMILY, ODD, ('a', 'b'), (), ())
        self.right('needed', FAMILY, ODD, ('b',), (), ())
        self.wrong(1, 'needed', FAMILY, LATEST, ('c', 'a'), ('b',), ())
        self.wrong(1, 'needed', FAMILY, LATEST, (), (), ())

    def test_answered(self):
        self.right('answered', FAMILY, (0,), ODD, (0, 1, 1))
        self.right('answered', FAMILY, (), YES, (0,))
        self.wrong(2, 'answered', FAMILY, (1,), ODD, (0, 1, 0))
        self.wrong(3, 'answered', FAMILY, (1,), ODD, (0, 1, 2))
        self.wrong(3, 'answered', FAMILY, (), ODD, (0, 1, 1))
        self.wrong(3, 'answered', FAMILY, (0,), LATEST, (0, 1))
        self.wrong(4, 'answered', FAMILY, (0, 1), LATEST, (0, 1))
        self.wrong(4, 'answered', FAMILY, (0, 1), FIRST_A, (0, 1, 2))
        family = FAMILY + (('a', 'c'),)
        self.right('answered', family, (2,), LATEST, (0, 1))
        self.wrong(4, 'answered', family, (0, 1), LATEST, (0, 1))
        self.right('answered', family, (0, 1, 2), LATEST, (3, 1))
        # Whether two names commute counts only if the group sees both of them.
        self.wrong(3, 'answered', family, (0,), LATEST, (0, 1))

    def test_unanswered(self):
        self.wrong(4, 'unanswered', FAMILY, (0, 1), LATEST, ('a', 'b', 'c'), ('c', 'a', 'b'))
        self.wrong(5, 'unanswered', FAMILY, (0, 1), LATEST, ('a', 'c'), ('a', 'c'))
        self.wrong(5, 'unanswered', FAMILY, (), LATEST, (), ('c', 'b'))
        self.right('unanswered', FAMILY, (), LATEST, (), ('c', 'a') * 100)

    def test_certain(self):
        table = verdicts.cut_table(GOOD_CASE, LATEST)
        wide = [(cut, (0, 1)) for cut, _ in table]
        self.right('certain', GOOD_CASE, LATEST, True, table[::-1])
        self.right('certain', GOOD_CASE, LATEST, True, wide[:-1] + table[-1:])
        self.wrong(4, 'certain', GOOD_CASE, LATEST, True, wide)
        self.wrong(4, 'certain', GOOD_CASE, LATEST, False, table)
        self.wrong(4, 'certain', GOOD_CASE, LATEST, False, wide)
        self.wrong(3, 'certain', GOOD_CASE, LATEST, True, table[1:])
        self.wrong(3, 'certain', GOOD_CASE, LATEST, True, tuple(table))
        self.wrong(3, 'certain', GOOD_CASE, LATEST, True, [])
        self.wrong(0, 'certain', RING_CASE, LATEST, True, table)
        self.wrong(0, 'certain', RING_CASE, None, None, None)
        self.wrong(0, 'certain', ((('a', 'b'), ('b',)), (('b', 'c'), ())), LATEST, True, table)
        for value in (0, 1, None, 'yes', (), (True,)):
            self.wrong(2, 'certain', GOOD_CASE, LATEST, value, table)

    def test_chosen(self):
        self.wrong(4, 'chosen', GOOD_CASE, FIRST_A, True, ('c', 'a', 'b', 'a'))
        self.right('chosen', GOOD_CASE, FIRST_A, True, ('a', 'c', 'b', 'a'))
        for log in [(), ('a', 'c', 'b'), ('a', 'c', 'b', 'a', 'a'), ('a', 'b', 'c', 'a'), ('a',) * 200]:
            self.wrong(3, 'chosen', GOOD_CASE, FIRST_A, True, log)
        self.wrong(0, 'chosen', RING_CASE, FIRST_A, True, ('a', 'b', 'c'))
        self.wrong(2, 'chosen', GOOD_CASE, FIRST_A, 1, ('a', 'c', 'b', 'a'))

    def test_forever(self):
        table = forever.position_table(BEHIND, FIRST)
        wide = [(position, (0, 1, 2)) for position, _ in table]
        self.right('forever', BEHIND, FIRST, True, [((0, 0), (0, 1))] + table[1:])
        self.wrong(3, 'forever', BEHIND, FIRST, True, wide[:-1] + table[-1:])
        self.right('forever', BEHIND, FIRST, True, table + [((0, 1), ()), ((1, 0), (0, 1))])
        self.wrong(4, 'forever', BEHIND, FIRST, True, wide)
        self.wrong(4, 'forever', BEHIND, FIRST, False, table)
        self.wrong(3, 'forever', BEHIND, FIRST, True, table[:-1])
        self.wrong(3, 'forever', BEHIND, FIRST, True, table + [((0, 2), ())])
        self.wrong(0, 'forever', CROSSED, FIRST, True, table)
        self.wrong(0, 'forever', CROSSED, None, None, None)
        self.wrong(2, 'forever', BEHIND, FIRST, 1, table)
        # No log fits, but logs begin with the views.
        uneven = ((('a', 'b'), ('a', 'b')), (('b', 'c'), ('c',)))
        self.right('forever', uneven, YES, True, forever.position_table(uneven, YES))

    def test_turning(self):
        self.wrong(3, 'turning', BEHIND, LAST, ('a', 'b'), ('a', 'b', 'b'))
        self.wrong(1, 'turning', BEHIND, LAST, ('b', 'a'), ('a', 'b'))
        self.wrong(2, 'turning', BEHIND, LAST, ('a', 'b', 'a'), ('a',))
        self.wrong(1, 'turning', BEHIND, LAST, (), ())
        self.right('turning', BEHIND, LAST, ('a', 'b') * 100, ('a', 'b') * 100 + ('a',))
        self.right('turning', BEHIND, LAST, ('a', 'b') * 100 + ('a',), ('a', 'b'))
        for value in (('a', 'b', 'c'), ['a', 'b'], ('a', 'b', None)):
            self.wrong(1, 'turning', BEHIND, LAST, value, ('a', 'b'))
            self.wrong(2, 'turning', BEHIND, LAST, ('a', 'b'), value)
        # That there is a growing log is no condition of its own: no log begins with the views.
        self.wrong(1, 'turning', CROSSED, LAST, ('a', 'b'), ('b', 'a'))

    def test_known_and_common(self):
        for sets, k in [([(0,), (0,), (0, 1)], 4), ([(0,), (0,)], 3), (SETS + [(0,)], 3), (tuple(SETS), 3), ([], 3),
                        ([(0,), (), (0,)], 3), ([(1,), (1,), (1,)], 3), ([(0,), (0,), ()], 3), ([[0]] * 3, 3),
                        ([(0,), (0, 0), (0,)], 3), ([(False,), (0,), (0,)], 3), ([(0,), (0, 2), (0,)], 3),
                        ([(0, 1), (0,), (0,)], 3), ([(0, 1), (0, 1), (0,)], 3), ([(0, 1), (0, 1), (0, 1)], 4)]:
            self.wrong(k, 'known', FAMILY, 0, NEVER_A, ('c', 'b', 'c', 'b'), sets)
            self.wrong(k, 'common', FAMILY, (0,), NEVER_A, ('c', 'b', 'c', 'b'), sets)
        self.right('known', FAMILY, 0, NEVER_A, (), [(0,)])
        self.right('common', FAMILY, (0,), NEVER_A, (), [(0,)])
        # Sets with more states than the least ones.
        three = ((True, False, True), ((1, 0, 0), (1, 1, 1), (2, 2, 2)))
        self.right('known', FAMILY, 0, three, ('b',), [(0, 2), (0, 2)])
        self.right('known', FAMILY, 0, three, ('b',), [(0,), (0, 2)])
        self.wrong(3, 'known', FAMILY, 0, three, ('b',), [(0, 2), (0,)])
        self.wrong(4, 'known', FAMILY, 0, three, ('b',), [(0,), (0, 1)])
        # By a name that is not seen the states have to stay within each set.
        self.wrong(3, 'known', FAMILY, 1, NEVER_A, ('b',), [(0,), (0,)])
        self.wrong(3, 'known', FAMILY, 1, NEVER_A, ('b',), [(0, 1), (0,)])
        self.wrong(4, 'known', FAMILY, 1, NEVER_A, ('b',), [(0, 1), (0, 1)])
        self.wrong(0, 'common', FAMILY, (), SMALL_ODD, ('b',), [(0,), (1,)])
        self.wrong(3, 'common', FAMILY, (0, 1), SMALL_ODD, ('a', 'b'), [(0,), (0,), (1,)])
        self.wrong(4, 'common', FAMILY, (0, 1), SMALL_ODD, ('a', 'b', 'b'), [(0,), (1,), (0,)])

    def test_unknown(self):
        self.wrong(4, 'unknown', FAMILY, 0, ODD, ('b',), ('b', 'c'))
        self.wrong(3, 'unknown', FAMILY, 0, LATEST, ('a', 'b'), ('b', 'a'))
        self.wrong(3, 'unknown', FAMILY, 0, LATEST, ('a', 'b'), ['a', 'b', 'c'])
        self.wrong(4, 'unknown', FAMILY, 0, LATEST, ('a', 'b'), ('c', 'a', 'b'))
        self.right('unknown', FAMILY, 0, LATEST, ('c', 'a', 'b'), ('a', 'b') + ('c',) * 200)

    def test_uncommon(self):
        self.right('uncommon', FAMILY, (0, 1), LATEST, [()])
        self.wrong(4, 'uncommon', FAMILY, (0, 1), LATEST, [('a',)])
        self.right('uncommon', FAMILY, (0, 1), LATEST, [('a',), ('a', 'c')])
        self.wrong(3, 'uncommon', FAMILY, (1,), LATEST, [('a',), ('a', 'c')])
        self.wrong(3, 'uncommon', FAMILY, (0, 1), LATEST, [('a',), ('c', 'b')])
        self.wrong(3, 'uncommon', FAMILY, (0, 1), LATEST, [('a', 'c'), (), ()])
        self.right('uncommon', FAMILY, (0, 1), LATEST, [('a', 'c'), ('c',), ()])
        self.wrong(4, 'uncommon', FAMILY, (0, 1), LATEST, [(), ('c',), ('c', 'a')])
        self.wrong(0, 'uncommon', FAMILY, (), LATEST, [()])
        for logs in [[], (), ((),), [None], [['a']], [(), ('d',)], [('a',), 'a'], 'a', None, [[]], [(), ()] + [()]]:
            self.check(('uncommon', FAMILY, (0, 1), LATEST, logs))
            if logs != [(), (), ()]:
                self.wrong(2, 'uncommon', FAMILY, (0, 1), LATEST, logs)
        # Each step looks the same to one observer, and no one sees both of them.
        self.wrong(3, 'uncommon', FAMILY, (0, 1), LATEST, [('a', 'c'), ('b',)])


class DrawnRecordsTest(RecordCase):

    def some(self, family, question, other, rng):
        """Records of the forms with a family, right ones and wrong ones."""
        names = names_of(family)
        group = rng.choice(need_reference.groups(family))
        some = group or (0,)
        observer = rng.randrange(len(family))
        log, second = [tuple(rng.choice(names) for _ in range(rng.randint(0, 4))) for _ in range(2)]
        pair = rng.choice(need_reference.looks_of(names))
        classes = needs.classes_of(family, question)
        both = classes + needs.classes_of(family, other)
        known = knowing.known_sets(family, observer, question, log)
        shared = knowing.common_sets(family, some, question, log)
        logs = knowing.leading_logs(family, some, question, log) or [log, second]
        other_log = knowing.other_log(family, observer, question, log) or second
        return [
            ('alike', family, question, other, both), ('alike', family, question, question, classes + classes),
            ('alike', family, question, other, tuple(rng.choice([0, 1, 2, None]) for _ in both)),
            ('parted', family, question, other, machines.parting_log(family, question, other) or log),
            ('parted', family, question, other, log),
            ('needed', family, question, pair) + (needs.need_logs(family, question, pair) or (log, second)),
            ('needed', family, question, pair, log, second), ('answered', family, group, question, classes),
            ('answered', family, group, question, tuple(range(len(classes)))),
            ('unanswered', family, group, question) + (groups.parting_logs(family, group, question) or (log, second)),
            ('unanswered', family, group, question, log, second), ('unanswered', family, group, question, log, log),
            ('known', family, observer, question, log, known), ('common', family, some, question, log, shared),
            ('known', family, observer, question, log, [tuple(range(len(question[0])))] * len(known)),
            ('common', family, some, question, log, known), ('unknown', family, observer, question, log, other_log),
            ('unknown', family, observer, question, log, second), ('uncommon', family, some, question, logs),
            ('uncommon', family, some, question, logs[:-1]), ('uncommon', family, some, question, logs[::-1]),
            ('uncommon', family, some, question, logs + [second]),
        ]

    def test_records_of_families(self):
        rng = random.Random(411)
        found = {}
        for family, question, other in some_questions(412, 120, 4):
            if rng.random() < 0.3:
                question = doubled(rng, question, 8)
            for record in self.some(family, question, other, rng):
                found.setdefault(record[0], set()).add(self.check(record))
                at = rng.randrange(2, len(record))
                value = rng.choice([None, (), [], 0, True, ('a',), record[rng.randrange(2, len(record))]])
                self.check(record[:at] + (value,) + record[at + 1:])
        for form in found:
            self.assertIn(('right',), found[form])
            self.assertGreater(len(found[form]), 1)

    def test_changed_classes_and_sets(self):
        rng = random.Random(413)
        found = []
        for family, question, _ in some_questions(414, 80, 4):
            log = tuple(rng.choice(names_of(family)) for _ in range(rng.randint(0, 3)))
            sets = knowing.known_sets(family, 0, question, log)
            states = range(len(question[0]))
            for _ in range(12):
                value = [tuple(sorted(set(row) | set(rng.sample(states, rng.choice([0, 0, 1]))))) for row in sets]
                if rng.random() < 0.3:
                    value[rng.randrange(len(value))] = rng.choice([(), (0,), (1, 0), [0], (0, 0), None, (True,)])
                found.append(self.check(('known', family, 0, question, log, value)))
                found.append(self.check(('common', family, (0,), question, log, value)))
                self.assertEqual(found[-1], found[-2])
        self.assertGreater(min(found.count(('right',)), found.count(('wrong', 3)), found.count(('wrong', 4))), 80)

    def test_records_of_possible_cases(self):
        rng = random.Random(415)
        found = []
        for case, question in possible_cases(416, 60, 6):
            table = verdicts.cut_table(case, question)
            for answer in (True, False):
                for value in [table] + changed_tables(rng, table, len(question[0]), 10):
                    found.append(self.check(('certain', case, question, answer, value)))
                log = verdicts.first_log(case, question, answer)
                if log is not None:
                    self.right('chosen', case, question, answer, log)
                    self.wrong(4, 'chosen', case, question, not answer, log)
                for value in [least_log(case), (), ('a',) * 3]:
                    self.check(('chosen', case, question, answer, value))
        self.assertEqual({('right',), ('wrong', 3), ('wrong', 4)}, set(found))

    def test_records_of_growing_cases(self):
        rng = random.Random(417)
        found = []
        for case, question in growing_cases(418, 60, 6):
            table = forever.position_table(case, question)
            names = names_of(family_of(case))
            for answer in (True, False):
                for value in [table] + changed_tables(rng, table, len(question[0]), 8):
                    found.append(self.check(('forever', case, question, answer, value)))
            logs = forever.turning_logs(case, question)
            if logs is not None:
                self.right('turning', case, question, *logs)
                self.right('turning', case, question, *logs[::-1])
            log = growing_log(case)
            longer = log + tuple(rng.choice(names) for _ in range(4))
            self.check(('turning', case, question, log, longer))
            self.check(('turning', case, question, longer[:2], log))
        self.assertEqual({('right',), ('wrong', 3), ('wrong', 4)}, set(found))


class LargeCasesTest(RecordCase):
    """The judge does not raise TooMany."""

    def test_more_than_300_cuts(self):
        question = counter((('a',), ('b',)), 'a', 2)
        table = [((a, b), (a % 2,)) for a in range(16) for b in range(19)]
        check_raises(self, TooMany, verdicts.verdict, MORE_THAN_300, question)
        self.assertEqual(judge(('certain', MORE_THAN_300, question, False, table)), ('right',))
        self.assertEqual(judge(('certain', MORE_THAN_300, question, True, table)), ('wrong', 4))
        self.assertEqual(judge(('certain', MORE_THAN_300, question, False, table[1:])), ('wrong', 3))
        self.assertEqual(judge(('certain', MORE_THAN_300, question, False, table[:-1])), ('wrong', 3))
        log = ('a', 'b') * 15 + ('b',) * 3
        self.assertEqual(judge(('chosen', MORE_THAN_300, question, False, log)), ('right',))
        self.assertEqual(judge(('chosen', MORE_THAN_300, question, True, log)), ('wrong', 4))
        six = tuple(((name,), (name,) * 20) for name in 'abcdef')
        yes = ((True,), ((0,) * 6,))
        self.assertEqual(judge(('certain', six, yes, True, [((0,) * 6, (0,))])), ('wrong', 3))
        self.assertEqual(judge(('chosen', six, yes, True, tuple('abcdef') * 20)), ('right',))
        self.assertEqual(judge(('turning', six, yes, tuple('abcdef') * 20, tuple('abcdef') * 25)), ('wrong', 3))

    def test_more_than_1000_positions(self):
        for case, right in [(EXACTLY_1000, 1000), (MORE_THAN_1000, 1001)]:
            question = ((False, True), ((1, 0, 0), (1, 1, 1)))
            table = [(position, (int(position[0] > 0),)) for position in tables.positions(case)]
            self.assertEqual(len(table), right)
            self.assertEqual(judge(('forever', case, question, True, table)), ('right',))
            self.assertEqual(judge(('forever', case, question, False, table)), ('wrong', 4))
            self.assertEqual(judge(('forever', case, question, True, table[:-1])), ('wrong', 3))
        check_raises(self, TooMany, forever.forever, MORE_THAN_1000, one_by_one(MORE_THAN_1000))
        six = tuple(((name,), (name,) * 20) for name in 'abcdef')
        yes = ((True,), ((0,) * 6,))
        self.assertEqual(judge(('forever', six, yes, True, [((0,) * 6, (0,))])), ('wrong', 3))
        question = counter(family_of(six), 'a', 2)
        logs = (tuple('abcdef') * 20, tuple('abcdef') * 21)
        self.assertEqual(judge(('turning', six, question, *logs)), ('right',))

    def test_questions_with_many_sets(self):
        size = 40
        steps = [(0, 0, 1), (2, 0, 1)] + [(at + 1, at + 1, at) for at in range(2, size - 1)] + [(0, 0, size - 1)]
        question = (tuple(at != size - 1 for at in range(size)), tuple(steps))
        check_raises(self, TooMany, knowing.knows, FAMILY, 0, question)
        log = ('a', 'b') * 10
        sets = knowing.known_sets(FAMILY, 0, question, log)
        self.right('known', FAMILY, 0, question, log, sets)
        self.right('common', FAMILY, (0,), question, log, sets)


class NotARecordTest(RecordCase):

    def test_any_values(self):
        for value in ANY_VALUES + [(), [], '', 'alike', ('alike',), None, 0, True]:
            check_raises(self, NotARecord, judge, value)

    def test_first_entries_and_lengths(self):
        self.assertEqual([len(RIGHT[form.__name__]) for form in reference.FORMS], reference.LENGTHS)
        for record in RIGHT.values():
            check_raises(self, NotARecord, judge, list(record))
            check_raises(self, NotARecord, judge, record[:-1])
            check_raises(self, NotARecord, judge, record + (None,))
            check_raises(self, NotARecord, judge, record[1:])
            check_raises(self, NotARecord, judge, (record,))
            check_raises(self, NotARecord, judge, record[:1])
            for first in ANY_VALUES + ['Alike', 'alike ', '', 'log', 'ring', 'growing', ('alike',), ['alike'], None]:
                check_raises(self, NotARecord, judge, (first,) + record[1:])
            # It is looked at before the second entry.
            check_raises(self, NotARecord, judge, (record[0], None) + record[2:-1])

    def test_forms_of_other_lengths(self):
        for form in reference.FORMS:
            for size in range(0, 9):
                record = (form.__name__,) + (None,) * size
                right = {form.__name__: length for form, length in zip(reference.FORMS, reference.LENGTHS)}
                if size + 1 != right[form.__name__]:
                    check_raises(self, NotARecord, judge, record)

    def test_families_and_cases(self):
        for form, record in RIGHT.items():
            error, values = (InvalidCase, NO_CASES) if form in reference.OF_CASE else (InvalidFamily, NO_FAMILIES)
            for value in values + [value for value in ANY_VALUES if value != (('a',),) or form in reference.OF_CASE]:
                check_raises(self, error, judge, (form, value) + record[2:])
                check_raises(self, error, judge, (form, value) + (None,) * len(record[2:]))
            other = FAMILY if form in reference.OF_CASE else GOOD_CASE
            check_raises(self, error, judge, (form, other) + record[2:])


class ModulesTest(RecordCase):
    """What the other modules return makes right records."""

    def test_questions(self):
        rng = random.Random(421)
        for family, question, other in some_questions(422, 80, 4):
            twin = doubled(rng, question)
            self.right('alike', family, question, twin, machines.joint_classes(family, question, twin))
            small = machines.least_question(family, question)
            self.right('alike', family, question, small, machines.joint_classes(family, question, small))
            log = machines.parting_log(family, question, other)
            if log is not None:
                self.right('parted', family, question, other, log)
            for names in need_reference.looks_of(names_of(family)):
                logs = needs.need_logs(family, question, names)
                if logs is not None:
                    self.right('needed', family, question, names, *logs)
            for group in need_reference.groups(family):
                if groups.does_answer(family, group, question):
                    self.right('answered', family, group, question, needs.classes_of(family, question))
                else:
                    self.right('unanswered', family, group, question, *groups.parting_logs(family, group, question))
                    self.assertNotEqual(
                        judge(('answered', family, group, question, needs.classes_of(family, question))), ('right',))

    def test_telling_questions(self):
        for family, _, _ in some_questions(423, 60):
            for group in need_reference.groups(family)[:6]:
                for other in need_reference.groups(family)[-4:]:
                    question = groups.telling_question(family, group, other)
                    if question is not None:
                        self.right('answered', family, other, question, needs.classes_of(family, question))
                        logs = groups.parting_logs(family, group, question)
                        self.right('unanswered', family, group, question, *logs)

    def test_verdicts(self):
        for case, question in possible_cases(424, 80):
            said = verdicts.verdict(case, question)
            table = verdicts.cut_table(case, question)
            results = [judge(('certain', case, question, answer, table)) for answer in (True, False)]
            self.assertEqual(results, {
                'yes': [('right',), ('wrong', 4)], 'no': [('wrong', 4), ('right',)],
                'both': [('wrong', 4), ('wrong', 4)]}[said])
            for answer in (True, False):
                many = chosen.count_chosen(case, question, answer)
                for place in range(min(many, 4)):
                    self.right('chosen', case, question, answer, chosen.chosen_log(case, question, answer, place))
                self.assertEqual(many > 0, said in ('both', {True: 'yes', False: 'no'}[answer]))

    def test_verdicts_for_ever(self):
        for case, question in growing_cases(425, 80):
            said = forever.forever(case, question)
            table = forever.position_table(case, question)
            results = [judge(('forever', case, question, answer, table)) for answer in (True, False)]
            self.assertEqual(results, {
                'yes': [('right',), ('wrong', 4)], 'no': [('wrong', 4), ('right',)],
                'both': [('wrong', 4), ('wrong', 4)]}[said])
            logs = forever.turning_logs(case, question)
            self.assertEqual(logs is not None, said == 'both')
            if logs is not None:
                self.right('turning', case, question, *logs)

    def test_knowledge(self):
        rng = random.Random(426)
        for family, question, _ in some_questions(427, 80, 4):
            log = tuple(rng.choice(names_of(family)) for _ in range(rng.randint(0, 5)))
            for observer in range(len(family)):
                sets = knowing.known_sets(family, observer, question, log)
                if knowing.is_known(family, observer, question, log):
                    self.right('known', family, observer, question, log, sets)
                else:
                    self.wrong(4, 'known', family, observer, question, log, sets)
                    other = knowing.other_log(family, observer, question, log)
                    self.right('unknown', family, observer, question, log, other)
            for group in need_reference.groups(family)[1:]:
                sets = knowing.common_sets(family, group, question, log)
                logs = knowing.leading_logs(family, group, question, log)
                if logs is None:
                    self.right('common', family, group, question, log, sets)
                else:
                    self.wrong(4, 'common', family, group, question, log, sets)
                    self.right('uncommon', family, group, question, logs)

    def test_deep_questions(self):
        for family, _, _ in some_questions(428, 40):
            group = tuple(range(len(family)))
            question = knowing.deep_question(family, group)
            if question is not None:
                logs = knowing.leading_logs(family, group, question, ())
                self.right('uncommon', family, group, question, logs)
                self.assertEqual(len(logs), knowing.depth_of(family, group) + 1)
                # Fewer logs are not enough.
                self.assertNotEqual(judge(('uncommon', family, group, question, logs[:1] + logs[2:])), ('right',))

    def test_at_most_one_kind_of_records_is_right(self):
        rng = random.Random(429)
        for case, question in possible_cases(430, 60, 6):
            everything = [(cut, tuple(range(len(question[0])))) for cut in verdicts.all_cuts(case)]
            values = [verdicts.cut_table(case, question), everything] + changed_tables(
                rng, verdicts.cut_table(case, question), len(question[0]), 6)
            logs = [least_log(case)] + [verdicts.first_log(case, question, answer) for answer in (True, False)]
            right = set()
            for answer in (True, False):
                if ('right',) in [judge(('certain', case, question, answer, value)) for value in values]:
                    right.add(answer)
            chosen_ones = {answer for answer in (True, False) for log in logs
                           if judge(('chosen', case, question, answer, log)) == ('right',)}
            if len(chosen_ones) == 2:
                right.add('both')
            self.assertEqual(len(right), 1)

    def test_views_and_their_restrictions(self):
        # The record "unknown" looks at the view of the observer alone.
        for family, question, _ in some_questions(431, 40):
            log = tuple(names_of(family)) * 2
            for observer, known in enumerate(family):
                other = restrict(log, known)
                result = judge(('unknown', family, observer, question, log, other))
                self.assertEqual(result, ('wrong', 4) if machines.answer_to(family, question, other) else ('right',))

    def test_random_questions_for_others(self):
        rng = random.Random(432)
        for family, _, _ in some_questions(433, 30):
            question = random_question(rng, family, 3)
            self.right('answered', family, tuple(range(len(family))), YES if len(names_of(family)) == 3 else (
                (True,), ((0,) * len(names_of(family)),)), (0,))
            self.right('parted', family, question, machines.opposite_of(family, question), ())


if __name__ == '__main__':
    unittest.main()
