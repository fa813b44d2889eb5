"""Points 25 and 26 and partviews/needs.py."""

import random
import unittest

from partviews.errors import InvalidNames
from partviews.machines import least_question, once_of
from partviews.needs import are_classes, classes_of, need_logs, needed_names, needed_pairs
from tests import machine_reference as machine
from tests import need_reference as reference
from tests.growing_reference import names_of
from tests.question_samples import (
    ANY_VALUES, BAD_NEEDS, FAMILY, FIRST_A, LATEST, NO, ODD, YES, check_right_ones, check_wrong_ones, counter, doubled,
    lasso, some_questions,
)
from tests.samples import check_new_lists, check_raises, other_runs

CALLS = [(needed_names, 'fq'), (needed_pairs, 'fq'), (need_logs, 'fqn'), (classes_of, 'fq'), (are_classes, 'fqv')]
# Whether an event with one of some names has happened: what needs several names, and none of them together.
ANY_AB = ((False, True), ((1, 1, 0), (1, 1, 1)))
# State 1 is as state 0, but no log leads to state 2, from which more would be needed.
SPARE = ((False, False, True), ((1, 0, 0), (0, 1, 1), (0, 2, 1)))


class NeedTest(unittest.TestCase):

    def check(self, family, question):
        """Compare with the reference, and look at the logs that are returned."""
        found = reference.needs(family, question)
        self.assertEqual(needed_names(family, question), [names[0] for names in found if len(names) == 1])
        self.assertEqual(needed_pairs(family, question), [names for names in found if len(names) == 2])
        for names in reference.looks_of(names_of(family)):
            logs = need_logs(family, question, names)
            if names not in found:
                self.assertIsNone(logs)
                continue
            self.assertEqual([type(entry) for entry in (logs,) + logs], [tuple, tuple, tuple])
            self.assertTrue(set(logs[0] + logs[1]) <= set(names_of(family)))
            one, other = reference.two_logs(logs[0], names, logs[1])
            self.assertNotEqual(machine.answer(family, question, one), machine.answer(family, question, other))
            self.assertEqual(need_logs(family, question, names), logs)
        return found

    def test_examples(self):
        self.assertEqual(needed_names(FAMILY, LATEST), ['a', 'c'])
        self.assertEqual(needed_pairs(FAMILY, LATEST), [('a', 'c')])
        self.assertEqual(self.check(FAMILY, LATEST), [('a',), ('c',), ('a', 'c')])
        self.assertEqual(self.check(FAMILY, ODD), [('b',)])
        self.assertEqual(self.check(FAMILY, FIRST_A), [('a',), ('b',), ('c',), ('a', 'b'), ('a', 'c')])
        self.assertEqual(self.check(FAMILY, ANY_AB), [('a',), ('b',)])

    def test_nothing_is_needed(self):
        for question in (YES, NO, SPARE):
            self.assertEqual(self.check(FAMILY, question), [])
        for size in (2, 6, 60):
            steps = tuple(((at + 1) % size, 0, at) for at in range(size))
            self.assertEqual(self.check(FAMILY, ((True,) * size, steps)), [])

    def test_counters_commute(self):
        for size in (2, 5, 60):
            question = ((True,) + (False,) * (size - 1), tuple(((at + 1) % size,) * 2 + (at,) for at in range(size)))
            self.assertEqual(self.check(FAMILY, question), [('a',), ('b',)])
        question = ((True,) + (False,) * 9, tuple(((at + 1) % 10, (at + 9) % 10, (at + 5) % 10) for at in range(10)))
        self.assertEqual(self.check(FAMILY, question), [('a',), ('b',), ('c',)])

    def test_far_logs(self):
        # What the name b changes shows only behind many names a.
        steps = tuple((min(at + 1, 58), 59 if at == 30 else at, at) for at in range(59)) + ((59, 59, 59),)
        question = (tuple(at == 58 for at in range(60)), steps)
        self.assertEqual(self.check(FAMILY, question), [('a',), ('b',), ('a', 'b')])
        self.assertEqual(self.check(FAMILY, lasso(FAMILY, 'c', 59, 1)), [('c',)])
        self.assertEqual(self.check(FAMILY, counter(FAMILY, 'c', 60)), [('c',)])

    def test_equal_name_sets_and_eight_names(self):
        for family in [(('a', 'b', 'c'),), (('a', 'b', 'c'),) * 6, (('a',), ('b',), ('c',)), (('c',), ('a', 'b'))]:
            self.assertEqual(self.check(family, LATEST), [('a',), ('c',), ('a', 'c')])
        eight = (('a', 'c', 'e', 'g'), ('b', 'd', 'f', 'h'))
        names = 'abcdefgh'
        latest = ((False, True), tuple(tuple({'a': 1, 'h': 0}.get(name, at) for name in names) for at in (0, 1)))
        self.assertEqual(self.check(eight, latest), [('a',), ('h',), ('a', 'h')])
        self.assertEqual(len(self.check(eight, ((True, False), ((1,) * 8, (0,) * 8)))), 8)

    def test_many_questions(self):
        many = [len(self.check(family, question)) for family, question, _ in some_questions(301, 300)]
        self.assertEqual(many.count(0) > 20 and max(many) > 8, True)
        rng = random.Random(302)
        for family, question, _ in some_questions(303, 60):
            self.assertEqual(self.check(family, doubled(rng, question)), self.check(family, question))

    def test_by_all_logs(self):
        for family, question, _ in some_questions(304, 160, 3):
            if len(names_of(family)) <= 3:
                found = reference.needs_by_logs(family, question, 2)
                self.assertEqual(self.check(family, question), found)

    def test_pairs_are_of_needed_names(self):
        for family, question, _ in some_questions(305, 200):
            names = needed_names(family, question)
            self.assertEqual([pair for pair in needed_pairs(family, question) if not set(pair) <= set(names)], [])
            self.assertEqual(names == [], len(least_question(family, question)[0]) == 1)


class ClassesTest(unittest.TestCase):

    def check(self, family, question, value):
        right = reference.are_classes(question, value)
        self.assertIs(are_classes(family, question, value), right, (question, value))
        return right

    def least(self, family, question):
        found = classes_of(family, question)
        self.assertEqual(found, machine.classes(family, question))
        self.assertIs(type(found), tuple)
        self.assertIs(self.check(family, question, found), True)
        return found

    def test_examples(self):
        self.assertEqual(self.least(FAMILY, ODD), (0, 1, 1))
        self.assertEqual(self.least(FAMILY, LATEST), (0, 1))
        self.assertEqual(self.least(FAMILY, YES), (0,))
        self.assertEqual(self.least(FAMILY, SPARE), (0, 0, None))
        self.assertEqual(self.least(FAMILY, ((False, True, True), ((2, 0, 0), (0, 1, 1), (2, 2, 0)))), (0, None, 1))

    def test_right_ones(self):
        for value in [(0, 1, 1), (1, 0, 0), (7, 10 ** 30, 10 ** 30), (0, 1, 2), (5, 0, 9)]:
            self.assertIs(self.check(FAMILY, ODD, value), True)
        for value in [(0, 0, None), (3, 3, None), (0, 1, None), (0, 0, 2), (0, 1, 2), (2, 1, 0)]:
            self.assertIs(self.check(FAMILY, SPARE, value), True)

    def test_wrong_ones(self):
        for value in [
                (0, 0, 0), (0, 0, 1), (0, 1, 0), (None, 1, 1), (0, None, None), (0, 1, None), (None,) * 3, (0, 1),
                (0, 1, 1, 1), (), [0, 1, 1], [], (False, True, True), (0, True, True), (0, True, 1), (0, 1, True),
                (False, 1, 1), (-1, 1, 1), (0, -1, -1), (0, '1', '1'), ('0', 1, 1), (0, (1,), (1,)), (0, [1], [1]),
                ((0, 1, 1),), [(0, 1, 1)], '011', 11, None]:
            self.assertIs(self.check(FAMILY, ODD, value), False)
        for value in [(0, 0, 0), (0, 1, 0), (None, None, None), (0, None, None), (None, 0, 1), (1, 1, 1)]:
            self.assertIs(self.check(FAMILY, SPARE, value), False)
        # From the first state on, each next state needs a number.
        self.assertIs(self.check(FAMILY, LATEST, (0, None)), False)
        self.assertIs(self.check(FAMILY, LATEST, (None, 0)), False)

    def test_any_values(self):
        for value in ANY_VALUES:
            for question in (ODD, LATEST, YES):
                self.check(FAMILY, question, value)
            for at in range(3):
                self.check(FAMILY, ODD, (0, 1, 1)[:at] + (value,) + (0, 1, 1)[at + 1:])

    def test_states_with_different_answers(self):
        question = ((False, True), ((0, 0, 0), (1, 1, 1)))
        for value, right in [((0, None), True), ((0, 1), True), ((1, 0), True), ((0, 0), False), ((None, 0), False)]:
            self.assertIs(self.check(FAMILY, question, value), right)

    def test_many_questions(self):
        rng = random.Random(306)
        found = []
        for family, question, _ in some_questions(307, 260):
            question = doubled(rng, question) if rng.random() < 0.5 else question
            least = self.least(family, question)
            many = max(number for number in least if number is not None) + 1
            turned = rng.sample(range(20), many)
            values = [tuple(None if number is None else turned[number] for number in least), tuple(range(len(least)))]
            for _ in range(6):
                value = list(rng.choice(values))
                value[rng.randrange(len(value))] = rng.choice([0, 1, 2, 3, None, len(value), -1, True])
                values.append(tuple(value))
            # Two numbers are joined, one is parted, one is renamed as a whole.
            values.append(tuple(0 if number == many - 1 else number for number in least))
            at = rng.randrange(len(least))
            values.append(least[:at] + (50,) + least[at + 1:])
            values.append(tuple(50 if number == least[at] else number for number in least))
            found += [self.check(family, question, value) for value in values]
        self.assertGreater(min(found.count(True), found.count(False)), 500)

    def test_what_stands_still_and_commutes(self):
        for family, question, _ in some_questions(308, 200):
            classes = classes_of(family, question)
            for name in names_of(family):
                still = reference.is_still(family, question, classes, name)
                self.assertIs(still, name not in needed_names(family, question))
            for one, other in reference.looks_of(names_of(family))[len(names_of(family)):]:
                alike = reference.do_commute(family, question, classes, one, other)
                self.assertIs(alike, (one, other) not in needed_pairs(family, question))


class ArgumentsTest(unittest.TestCase):

    def test_right_ones(self):
        for call, kinds in CALLS:
            check_right_ones(self, call, kinds)

    def test_wrong_ones(self):
        for call, kinds in CALLS:
            check_wrong_ones(self, call, kinds)

    def test_names_behind_the_question(self):
        for value in BAD_NEEDS:
            check_raises(self, InvalidNames, need_logs, FAMILY, YES, value)
        check_raises(self, InvalidNames, need_logs, (('a', 'b'), ('d',)), LATEST, ('c',))
        check_raises(self, InvalidNames, need_logs, (('a', 'b'), ('d',)), LATEST, ('a', 'c'))
        self.assertIsNone(need_logs((('a', 'b'), ('d',)), ODD, ('a', 'd')))

    def test_new_lists(self):
        for question in (LATEST, FIRST_A, ODD, once_of(FAMILY, LATEST)):
            check_new_lists(self, needed_names, FAMILY, question)
            check_new_lists(self, needed_pairs, FAMILY, question)

    def test_same_result_in_another_run(self):
        program = (
            'from partviews.needs import *\n'
            'from tests.need_reference import looks_of\n'
            'from tests.question_samples import some_questions\n'
            'for family, question, _ in some_questions(309, 40):\n'
            '    print(needed_names(family, question), needed_pairs(family, question), classes_of(family, question))\n'
            '    print([need_logs(family, question, names) for names in looks_of(needed_names(family, question))])\n'
        )
        found = other_runs(program)
        self.assertIn('a', found[0])
        self.assertEqual(found, found[:1] * 3)


if __name__ == '__main__':
    unittest.main()
