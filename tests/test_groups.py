"""Point 27 and partviews/groups.py."""

import random
import unittest

from partviews.errors import InvalidLog
from partviews.groups import (
    does_answer, further_names, greatest_groups, least_groups, look_same, parting_logs, sees_as_much, short_logs,
    telling_question,
)
from partviews.machines import is_question
from partviews.wrongs import InvalidGroup
from tests import machine_reference as machine
from tests import need_reference as reference
from tests.growing_reference import names_of
from tests.question_samples import (
    BAD_GROUPS, BAD_LOGS, FAMILY, FIRST_A, LATEST, NO, ODD, YES, check_right_ones, check_wrong_ones, counter, doubled,
    random_question, some_questions,
)
from tests.samples import check_new_lists, check_raises, cycle_family, other_runs, random_family

CALLS = [
    (look_same, 'fgll'), (does_answer, 'fgq'), (parting_logs, 'fgq'), (least_groups, 'fq'), (greatest_groups, 'fq'),
    (further_names, 'fgq'), (sees_as_much, 'fgg'), (short_logs, 'fgg'), (telling_question, 'fgg'),
]
TRIANGLE = (('a', 'b'), ('b', 'c'), ('a', 'c'))
# All names of the log, which no one observer sees: whether there were as many as a multiple of three.
THIRDS = ((True, False, False), ((1, 1, 1), (2, 2, 2), (0, 0, 0)))


def large_families(seed, many):
    """Families of up to six observers and eight names, also with equal name sets."""
    rng = random.Random(seed)
    found = []
    for at in range(many):
        family = random_family(rng) if at % 3 else cycle_family(rng, rng.randint(3, 6))
        if at % 4 == 1:
            family = (family + family)[:6]
        found.append(family)
    return found


class LookSameTest(unittest.TestCase):

    def check(self, family, group, log, other):
        right = reference.look_same(family, group, log, other)
        self.assertIs(look_same(family, group, log, other), right, (family, group, log, other))
        self.assertIs(look_same(family, group, other, log), right)
        return right

    def test_examples(self):
        self.assertIs(self.check(FAMILY, (), (), ('a', 'b', 'c')), True)
        self.assertIs(self.check(FAMILY, (0,), ('a', 'b'), ('c', 'a', 'c', 'b')), True)
        self.assertIs(self.check(FAMILY, (1,), ('a', 'b'), ('c', 'a', 'c', 'b')), False)
        self.assertIs(self.check(FAMILY, (0, 1), ('a', 'c', 'b'), ('c', 'a', 'b')), True)
        self.assertIs(self.check(FAMILY, (0, 1), ('a', 'b', 'c'), ('c', 'a', 'b')), False)
        self.assertIs(self.check(FAMILY, (0, 1), ('a', 'b', 'c'), ('b', 'a', 'c')), False)
        self.assertIs(self.check(FAMILY, (0, 1), ('a', 'b'), ('a', 'b', 'b')), False)
        self.assertIs(self.check(FAMILY, (0,), (), ()), True)

    def test_long_logs(self):
        log = ('a', 'b', 'c') * 100
        self.assertIs(self.check(FAMILY, (0, 1), log, ('a', 'b', 'c') * 101), False)
        self.assertIs(self.check(FAMILY, (0,), log + ('c',) * 50, log), True)
        self.assertIs(self.check(FAMILY, (0, 1), ('a', 'c') * 200, ('a',) * 200 + ('c',) * 200), True)

    def test_many_logs(self):
        rng = random.Random(311)
        found = []
        for family in large_families(312, 150):
            names = names_of(family)
            log = tuple(rng.choice(names) for _ in range(rng.randint(0, 8)))
            others = [log, tuple(rng.choice(names) for _ in range(rng.randint(0, 8)))]
            for _ in range(6):
                at = rng.randint(0, len(log))
                others += [log[:at] + (rng.choice(names),) + log[at:], log[:at] + log[at + 1:]]
                others += [log[:at] + log[at:at + 2][::-1] + log[at + 2:]]
            for other in others:
                group = rng.choice(reference.groups(family))
                found.append(self.check(family, group, log, other))
        self.assertGreater(min(found.count(True), found.count(False)), 500)


class AnswerTest(unittest.TestCase):

    def check(self, family, group, question):
        """Compare with the reference, and look at the logs that are returned."""
        right = reference.answers(family, group, question)
        self.assertIs(does_answer(family, group, question), right, (family, group, question))
        self.assertEqual(further_names(family, group, question), reference.further_names(family, group, question))
        logs = parting_logs(family, group, question)
        self.assertIs(logs is None, right)
        if logs is not None:
            self.assertEqual([type(entry) for entry in (logs,) + logs], [tuple, tuple, tuple])
            self.assertTrue(set(logs[0] + logs[1]) <= set(names_of(family)))
            self.assertIs(reference.look_same(family, group, *logs), True)
            one, other = [machine.answer(family, question, log) for log in logs]
            self.assertNotEqual(one, other)
            self.assertEqual(parting_logs(family, group, question), logs)
        return right

    def test_examples(self):
        self.assertIs(self.check(FAMILY, (0, 1), LATEST), False)
        self.assertEqual(further_names(FAMILY, (0, 1), LATEST), ('a', 'c'))
        self.assertEqual(further_names(FAMILY, (0,), LATEST), ('a', 'c'))
        self.assertEqual(further_names(FAMILY, (), LATEST), ('a', 'c'))
        self.assertEqual(further_names(FAMILY, (), ODD), ('b',))
        self.assertEqual(further_names(FAMILY, (1,), ODD), ())
        self.assertIs(self.check(FAMILY, (0,), ODD), True)
        self.assertIs(self.check(FAMILY, (1,), ODD), True)
        self.assertIs(self.check(FAMILY, (), ODD), False)
        self.assertIs(self.check(TRIANGLE, (2,), LATEST), True)
        self.assertIs(self.check(TRIANGLE, (0, 1), LATEST), False)

    def test_names_are_seen_but_not_together(self):
        self.assertIs(self.check(TRIANGLE, (0, 1), FIRST_A), False)
        self.assertEqual(further_names(TRIANGLE, (0, 1), FIRST_A), ('a', 'c'))
        self.assertEqual(further_names(TRIANGLE, (0,), FIRST_A), ('a', 'c'))
        self.assertEqual(further_names(TRIANGLE, (1,), FIRST_A), ('a', 'b', 'c'))
        self.assertIs(self.check(TRIANGLE, (0, 2), FIRST_A), True)
        self.assertIs(self.check(TRIANGLE, (0, 1), THIRDS), True)
        self.assertIs(self.check(TRIANGLE, (0,), THIRDS), False)

    def test_groups_without_and_with_all_observers(self):
        for family, question, _ in some_questions(313, 150):
            small = machine.least(family, question)
            self.assertIs(self.check(family, (), question), len(small[0]) == 1)
            self.check(family, tuple(range(len(family))), question)
        for group in reference.groups(TRIANGLE):
            for question in (YES, NO):
                self.assertIs(self.check(TRIANGLE, group, question), True)

    def test_many_questions(self):
        rng = random.Random(314)
        found = []
        for family, question, _ in some_questions(315, 200):
            for group in rng.sample(reference.groups(family), min(6, 2 ** len(family))):
                found.append(self.check(family, group, question))
        self.assertGreater(min(found.count(True), found.count(False)), 150)

    def test_large_families(self):
        rng = random.Random(316)
        found = []
        for family in large_families(317, 60):
            names = names_of(family)
            seen = rng.choice(family)
            question = counter(family, rng.choice(names), 3)
            wide = random_question(rng, family, 3)
            # A question that reads only names of one name set.
            kept = (wide[0], tuple(
                tuple(row[k] if name in seen else state for k, name in enumerate(names))
                for state, row in enumerate(wide[1])))
            for chosen in (question, kept, wide):
                for group in rng.sample(reference.groups(family), min(5, 2 ** len(family))):
                    found.append(self.check(family, group, chosen))
                    further = further_names(family, group, chosen)
                    if further and len(further) <= 6 and len(family) < 6:
                        self.assertIs(self.check(family + (further,), group + (len(family),), chosen), True)
        self.assertGreater(min(found.count(True), found.count(False)), 100)

    def test_by_all_logs(self):
        for family, question, _ in some_questions(318, 100, 3):
            if len(names_of(family)) <= 3:
                for group in reference.groups(family):
                    parted = reference.is_parted_by_logs(family, group, question, 5)
                    self.assertIs(does_answer(family, group, question), not parted)


class LeastAndGreatestTest(unittest.TestCase):

    def check(self, family, question):
        least, greatest = least_groups(family, question), greatest_groups(family, question)
        self.assertEqual(least, reference.least_groups(family, question))
        self.assertEqual(greatest, reference.greatest_groups(family, question))
        for found in (least, greatest):
            self.assertEqual(found, sorted(found, key=lambda group: (len(group), group)))
            self.assertEqual([type(group) for group in found], [tuple] * len(found))
        return least, greatest

    def test_examples(self):
        self.assertEqual(self.check(FAMILY, ODD), ([(0,), (1,)], [()]))
        self.assertEqual(self.check(TRIANGLE, FIRST_A), ([(0, 2)], [(0, 1), (1, 2)]))
        self.assertEqual(self.check(TRIANGLE, THIRDS), ([(0, 1), (0, 2), (1, 2)], [(0,), (1,), (2,)]))

    def test_each_group_answers(self):
        for question in (YES, NO):
            self.assertEqual(self.check(TRIANGLE, question), ([()], []))

    def test_no_group_answers(self):
        self.assertEqual(self.check(FAMILY, LATEST), ([], [(0, 1)]))
        self.assertEqual(self.check((('a',), ('b',), ('c',)), LATEST), ([], [(0, 1, 2)]))
        self.assertEqual(self.check((('a',), ('b', 'c')), LATEST), ([], [(0, 1)]))

    def test_equal_name_sets(self):
        self.assertEqual(self.check((('a', 'b', 'c'),) * 3, LATEST), ([(0,), (1,), (2,)], [()]))
        family = (('a', 'b'), ('a', 'b'), ('b', 'c'), ('b', 'c'))
        question = ((True, False), ((1, 0, 1), (0, 1, 0)))
        self.assertEqual(self.check(family, question), ([(0, 2), (0, 3), (1, 2), (1, 3)], [(0, 1), (2, 3)]))

    def test_many_questions(self):
        sizes = []
        for family, question, _ in some_questions(319, 250):
            least, greatest = self.check(family, question)
            sizes.append((len(least), len(greatest)))
        self.assertTrue({(0, 1), (1, 0), (1, 1), (1, 2), (2, 1)} <= set(sizes))

    def test_large_families(self):
        rng = random.Random(320)
        shorter = 0
        for family in large_families(321, 80):
            names = names_of(family)
            chosen = rng.sample(names, min(len(names), rng.randint(1, 3)))
            question = ((True, False), tuple(tuple(1 - state if name in chosen else state for name in names)
                                             for state in (0, 1)))
            least, greatest = self.check(family, question)
            shorter += len({len(group) for group in least}) > 1
        self.assertGreater(shorter, 2)


class SeesAsMuchTest(unittest.TestCase):

    def check(self, family, group, other):
        right = reference.sees_as_much(family, group, other)
        self.assertIs(sees_as_much(family, group, other), right, (family, group, other))
        logs, question = short_logs(family, group, other), telling_question(family, group, other)
        self.assertEqual([logs is None, question is None], [right, right])
        if not right:
            self.assertEqual([type(entry) for entry in (logs,) + logs], [tuple, tuple, tuple])
            self.assertTrue(max(len(log) for log in logs) <= 2)
            self.assertTrue(set(logs[0] + logs[1]) <= set(names_of(family)))
            self.assertIs(reference.look_same(family, group, *logs), True)
            self.assertIs(reference.look_same(family, other, *logs), False)
            self.assertIs(is_question(family, question), True)
            self.assertIs(reference.answers(family, other, question), True)
            self.assertIs(reference.answers(family, group, question), False)
            self.assertEqual(short_logs(family, group, other), logs)
            self.assertEqual(telling_question(family, group, other), question)
        return right

    def test_examples(self):
        self.assertIs(self.check(FAMILY, (0, 1), (1,)), True)
        self.assertIs(self.check(FAMILY, (0,), (1,)), False)
        self.assertIs(self.check(FAMILY, (), ()), True)
        self.assertIs(self.check(FAMILY, (), (0,)), False)
        self.assertIs(self.check(FAMILY, (0,), ()), True)

    def test_names_are_seen_but_not_together(self):
        self.assertIs(self.check(TRIANGLE, (0, 1), (2,)), False)
        self.assertEqual(sorted(short_logs(TRIANGLE, (0, 1), (2,))), [('a', 'c'), ('c', 'a')])
        family = (('a', 'b', 'c'), ('a', 'b'), ('b', 'c'), ('a', 'c'))
        self.assertIs(self.check(family, (1, 2, 3), (0,)), True)
        self.assertIs(self.check(family, (0,), (1, 2, 3)), True)
        self.assertIs(self.check(family, (1, 2), (0,)), False)

    def test_all_groups(self):
        rng = random.Random(322)
        found = []
        for family in large_families(323, 60) + [TRIANGLE, FAMILY, (('a',),), (('a', 'b'),) * 6]:
            groups = reference.groups(family)
            for group in rng.sample(groups, min(len(groups), 8)):
                for other in rng.sample(groups, min(len(groups), 4)) + [group, (), groups[-1]]:
                    found.append(self.check(family, group, other))
        self.assertGreater(min(found.count(True), found.count(False)), 300)

    def test_six_observers_and_eight_names(self):
        names = tuple('abcdefgh')
        family = tuple(names[at:at + 3] for at in range(6))
        everyone = tuple(range(6))
        for observer in range(6):
            rest = everyone[:observer] + everyone[observer + 1:]
            self.assertIs(self.check(family, everyone, rest), True)
            self.assertIs(self.check(family, rest, everyone), False)

    def test_what_is_answered(self):
        rng = random.Random(324)
        for family, question, _ in some_questions(325, 80):
            groups = reference.groups(family)
            for _ in range(6):
                group, other = rng.choice(groups), rng.choice(groups)
                if sees_as_much(family, group, other) and does_answer(family, other, question):
                    self.assertIs(does_answer(family, group, question), True)


class ArgumentsTest(unittest.TestCase):

    def test_right_ones(self):
        for call, kinds in CALLS:
            check_right_ones(self, call, kinds)

    def test_wrong_ones(self):
        for call, kinds in CALLS:
            check_wrong_ones(self, call, kinds)

    def test_groups_of_another_family(self):
        one = (('a', 'b', 'c'),)
        for group in [(1,), (0, 1)]:
            check_raises(self, InvalidGroup, does_answer, one, group, LATEST)
            check_raises(self, InvalidGroup, sees_as_much, one, (0,), group)
            check_raises(self, InvalidGroup, look_same, one, group, (), ())
        six = (('a', 'b', 'c'),) * 6
        for group in [(5,), (0, 1, 2, 3, 4, 5), (0, 5)]:
            self.assertIs(does_answer(six, group, LATEST), True)
        for group in [(6,), (0, 1, 2, 3, 4, 5, 6), (5, 0), (0, 2, 1), (0, 1, 1), (3, 3)]:
            check_raises(self, InvalidGroup, does_answer, six, group, LATEST)

    def test_second_argument_of_each_kind(self):
        for value in BAD_GROUPS:
            for call in (sees_as_much, short_logs, telling_question):
                check_raises(self, InvalidGroup, call, FAMILY, (), value)
        for value in BAD_LOGS:
            check_raises(self, InvalidLog, look_same, FAMILY, (), (), value)

    def test_new_lists(self):
        for question in (ODD, LATEST, THIRDS):
            for call in (least_groups, greatest_groups):
                check_new_lists(self, call, TRIANGLE, question)

    def test_alike_questions(self):
        rng = random.Random(326)
        for family, question, _ in some_questions(327, 60):
            twin = doubled(rng, question)
            self.assertEqual(least_groups(family, twin), least_groups(family, question))
            self.assertEqual(greatest_groups(family, twin), greatest_groups(family, question))

    def test_same_result_in_another_run(self):
        program = (
            'from partviews.groups import *\n'
            'from tests.question_samples import some_questions\n'
            'for family, question, _ in some_questions(328, 40):\n'
            '    print(least_groups(family, question), greatest_groups(family, question))\n'
            '    print(parting_logs(family, (0,), question), further_names(family, (), question))\n'
            '    print(short_logs(family, (), (0,)), telling_question(family, (), (0,)))\n'
        )
        found = other_runs(program)
        self.assertIn('a', found[0])
        self.assertEqual(found, found[:1] * 3)


if __name__ == '__main__':
    unittest.main()
