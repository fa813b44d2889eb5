"""Points 22 to 24, what point 34 says of "alike", and partviews/machines.py."""

import copy
import random
import unittest

from partviews.errors import InvalidFamily, InvalidLog, TooMany
from partviews.machines import (
    answer_to, are_alike, before_of, both_of, either_of, implies, is_question, joint_classes, least_question,
    once_of, opposite_of, parting_log, since_of,
)
from partviews.wrongs import InvalidQuestion
from tests import machine_reference as machine
from tests.growing_reference import names_of
from tests.question_samples import (
    FAMILY, FIRST_A, LATEST, NO, ODD, YES, bad_questions, check_right_ones, check_wrong_ones, counter, doubled, lasso,
    random_question, right_arguments, some_questions,
)
from tests.samples import NO_FAMILIES, check_raises, other_runs, same_again

ONE = (('a',),)
TWO = (('a', 'b'),)
MAKERS = {'both': both_of, 'either': either_of, 'once': once_of, 'before': before_of, 'since': since_of}
ONE_QUESTION = ('once', 'before')
# Each function with what its arguments are: a family, questions, a log.
CALLS = [
    (answer_to, 'fql'), (least_question, 'fq'), (are_alike, 'fqq'), (parting_log, 'fqq'), (implies, 'fqq'),
    (joint_classes, 'fqq'), (both_of, 'fqq'), (either_of, 'fqq'), (opposite_of, 'fq'), (once_of, 'fq'),
    (before_of, 'fq'), (since_of, 'fqq'),
]


class MachineCase(unittest.TestCase):

    def least(self, family, question):
        """A question, once more checked for its form, and for being the least one that is alike to it."""
        self.assertIs(is_question(family, question), True)
        self.assertEqual(question, machine.least(family, question))
        self.assertEqual([type(entry) for entry in question], [tuple, tuple])
        return question

    def check_made(self, kind, family, *questions):
        """The call makes the least question, or raises TooMany, as the reference counts the places."""
        call = MAKERS[kind]
        if machine.number_of_places(kind, family, questions) > 60:
            check_raises(self, TooMany, call, family, *questions)
            return None
        found = call(family, *questions)
        self.assertEqual(found, machine.made(kind, family, questions), (kind, family, questions))
        self.assertIs(machine.is_question(family, found), True)
        self.assertEqual(call(same_again(family), *same_again(questions)), found)
        return found


class IsQuestionTest(MachineCase):

    def check(self, family, value, right):
        before = copy.deepcopy(value)
        self.assertIs(is_question(family, value), right, value)
        self.assertEqual(repr(value), repr(before))

    def test_questions(self):
        for question in (LATEST, ODD, FIRST_A, YES, NO):
            self.check(FAMILY, question, True)
            self.check(FAMILY, same_again(question), True)

    def test_number_of_states(self):
        for size in (1, 2, 6, 59, 60, 61, 62, 120):
            question = ((False,) * size, tuple((size - 1, 0, at) for at in range(size)))
            self.check(FAMILY, question, size <= 60)
            self.check(FAMILY, (question[0], question[1][:-1]), False)
            self.check(FAMILY, (question[0][:-1], question[1]), False)
        self.check(FAMILY, ((), ()), False)
        self.check(FAMILY, ((False,) * 60, ((59, 59, 59),) * 60), True)
        self.check(FAMILY, ((False,) * 60, ((59, 60, 59),) * 60), False)
        self.check(FAMILY, ((False,) * 60, ((59, 59, 59),) * 59 + ((59, 59, 60),)), False)

    def test_no_questions(self):
        for value in bad_questions():
            self.check(FAMILY, value, False)

    def test_numbers_in_the_place_of_bools(self):
        for answers in [(0, 1), (False, 1), (0, True), (None, True), ('', True), ((), True), (False, [True])]:
            self.check(FAMILY, (answers, LATEST[1]), False)

    def test_bools_in_the_place_of_numbers(self):
        for at in range(2):
            for k in range(3):
                for value in (False, True):
                    rows = [list(row) for row in LATEST[1]]
                    rows[at][k] = value
                    self.check(FAMILY, (LATEST[0], tuple(tuple(row) for row in rows)), False)

    def test_question_for_another_family(self):
        for family in [ONE, TWO, (('a', 'b', 'c', 'd'),), (('a', 'b'), ('c', 'd'))]:
            self.check(family, LATEST, False)
        for family in [(('a', 'b', 'c'),), (('x', 'y', 'z'),), (('a',), ('b',), ('c',)), FAMILY[::-1], FAMILY * 3]:
            self.check(family, LATEST, True)
        eight = (('a', 'b', 'c', 'd'), ('e', 'f', 'g', 'h'))
        self.check(eight, ((True,), ((0,) * 8,)), True)
        self.check(eight, ((True,), ((0,) * 7,)), False)
        self.check(eight, ((True,), ((0,) * 9,)), False)

    def test_many_questions(self):
        for family, question, other in some_questions(201, 80):
            self.check(family, question, True)
            for further, value, _ in some_questions(202, 8):
                self.check(family, value, machine.is_question(family, value))

    def test_errors(self):
        for family in NO_FAMILIES:
            check_raises(self, InvalidFamily, is_question, family, LATEST)
            check_raises(self, InvalidFamily, is_question, family, None)
        check_raises(self, InvalidFamily, is_question, list(FAMILY), LATEST)


class AnswerTest(MachineCase):

    def test_examples(self):
        self.assertIs(answer_to(FAMILY, LATEST, ('c', 'a', 'b')), True)
        self.assertIs(answer_to(FAMILY, LATEST, ('c', 'a', 'b', 'c')), False)
        self.assertIs(answer_to(FAMILY, LATEST, ()), False)
        self.assertIs(answer_to(FAMILY, YES, ()), True)
        self.assertIs(answer_to(FAMILY, FIRST_A, ('b', 'a')), False)
        self.assertIs(answer_to(FAMILY, FIRST_A, ('a', 'b')), True)

    def test_long_logs(self):
        question = counter(FAMILY, 'b', 6)
        for size in (0, 1, 5, 6, 120, 121, 126, 600, 601, 6000):
            self.assertIs(answer_to(FAMILY, question, ('b',) * size), size % 6 == 0)
            self.assertIs(answer_to(FAMILY, question, ('a', 'b', 'c') * size), size % 6 == 0)

    def test_many_questions(self):
        rng = random.Random(203)
        for family, question, _ in some_questions(204, 120):
            names = names_of(family)
            logs = machine.logs_up_to(family, 2) + [
                tuple(rng.choice(names) for _ in range(rng.randint(0, 130))) for _ in range(4)
            ]
            for log in logs:
                self.assertIs(answer_to(family, question, log), machine.answer(family, question, log))


class LeastTest(MachineCase):

    def test_examples(self):
        self.assertEqual(least_question(FAMILY, ODD), ((False, True), ((0, 1, 0), (1, 0, 1))))
        self.assertEqual(least_question(FAMILY, LATEST), LATEST)
        self.assertEqual(least_question(FAMILY, FIRST_A), FIRST_A)
        self.assertEqual(least_question(FAMILY, YES), YES)
        self.assertEqual(least_question(FAMILY, NO), NO)

    def test_one_state_of_many(self):
        for said, small in [(True, YES), (False, NO)]:
            for size in (2, 6, 60):
                steps = tuple(((at + 1) % size, (at * 7) % size, 0) for at in range(size))
                self.assertEqual(least_question(FAMILY, ((said,) * size, steps)), small)

    def test_states_that_no_log_leads_to(self):
        question = ((False, True, True, False), ((3, 0, 0), (1, 2, 3), (2, 1, 0), (3, 3, 0)))
        self.assertEqual(least_question(FAMILY, question), NO)
        question = ((False, True, True), ((2, 0, 0), (0, 1, 1), (2, 2, 0)))
        self.assertEqual(least_question(FAMILY, question), LATEST)

    def test_order_of_states(self):
        # By b a log leads to a state before any log of two names does, and by a before that.
        question = ((False, False, True, True), ((3, 1, 0), (2, 1, 0), (2, 2, 2), (0, 3, 3)))
        small = ((False, True, False, True), ((1, 2, 0), (0, 1, 1), (3, 2, 0), (3, 3, 3)))
        self.assertEqual(least_question(FAMILY, question), small)
        question = ((False, True, False), ((0, 2, 1), (1, 1, 1), (2, 1, 0)))
        self.assertEqual(least_question(FAMILY, question), ((False, False, True), ((0, 1, 2), (1, 2, 0), (2, 2, 2))))

    def test_lassos(self):
        for tail, cycle in [(0, 1), (0, 60), (59, 1), (58, 2), (30, 30), (1, 5)]:
            for family in (ONE, FAMILY):
                question = lasso(family, 'a', tail, cycle)
                self.assertEqual(least_question(family, question), question)
        question = counter(FAMILY, 'c', 30)
        twice = (question[0] * 2, tuple((a, b, c + 30) for a, b, c in question[1]) + question[1])
        self.assertEqual(least_question(FAMILY, twice), question)

    def test_many_questions(self):
        sizes = set()
        for family, question, other in some_questions(205, 300):
            for value in (question, other):
                small = least_question(family, value)
                self.assertEqual(small, machine.least(family, value))
                self.assertEqual(least_question(family, small), small)
                self.assertEqual(least_question(family, same_again(value)), small)
                self.assertIs(machine.is_question(family, small), True)
                sizes.add(len(small[0]))
        self.assertEqual(sizes, {1, 2, 3, 4, 5, 6})

    def test_by_all_logs(self):
        for family, question, _ in some_questions(206, 120, 4):
            if len(names_of(family)) <= 3:
                self.assertEqual(least_question(family, question), machine.least_by_logs(family, question, 4))

    def test_doubled_and_renumbered(self):
        rng = random.Random(207)
        for family, question, _ in some_questions(208, 120):
            for most in (6, 12, 40):
                twin = doubled(rng, question, most)
                self.assertEqual(least_question(family, twin), machine.least(family, question))


class AlikeTest(MachineCase):

    def check(self, family, question, other):
        log = machine.parting_log(family, question, other)
        for one, two in ((question, other), (other, question)):
            self.assertEqual(parting_log(family, one, two), log)
            self.assertIs(are_alike(family, one, two), log is None)
        return log

    def test_examples(self):
        self.assertEqual(self.check(FAMILY, LATEST, ODD), ('a',))
        self.assertEqual(self.check(FAMILY, YES, NO), ())
        self.assertEqual(self.check(FAMILY, LATEST, FIRST_A), ('a', 'c'))
        self.assertIsNone(self.check(FAMILY, ODD, least_question(FAMILY, ODD)))
        self.assertIsNone(self.check(FAMILY, YES, YES))

    def test_least_log(self):
        # Two logs of two names part them: the first one in ascending order is the least one.
        one = ((False, False, True), ((1, 1, 0), (1, 2, 2), (2, 2, 2)))
        self.assertEqual(self.check(FAMILY, one, NO), ('a', 'b'))
        one = ((False, False, True), ((0, 0, 1), (2, 2, 2), (2, 2, 2)))
        self.assertEqual(self.check(FAMILY, one, NO), ('c', 'a'))
        one = ((False, False, True), ((1, 1, 2), (1, 1, 2), (2, 2, 2)))
        self.assertEqual(self.check(FAMILY, one, NO), ('c',))

    def test_long_parting_logs(self):
        one, other = lasso(ONE, 'a', 0, 59), lasso(ONE, 'a', 0, 60)
        self.assertEqual(self.check(ONE, one, other), ('a',) * 58)
        one = (tuple(at < 59 for at in range(60)), lasso(FAMILY, 'b', 59, 1)[1])
        self.assertEqual(self.check(FAMILY, one, YES), ('b',) * 59)
        # The answers part where the number of events is 11 short of a multiple of 11, and not one of 12.
        family = (('a', 'b'),)
        self.assertEqual(self.check(family, counter(family, 'b', 11), counter(family, 'b', 12)), ('b',) * 11)

    def test_many_questions(self):
        lengths = []
        for family, question, other in some_questions(209, 400):
            log = self.check(family, question, other)
            if log is not None:
                self.assertIsNot(answer_to(family, question, log), answer_to(family, other, log))
                lengths.append(len(log))
            else:
                lengths.append(None)
        self.assertGreater(lengths.count(None), 60)
        self.assertGreater(len([length for length in lengths if length and length > 1]), 20)

    def test_by_all_logs(self):
        for family, question, other in some_questions(210, 60, 3):
            if len(names_of(family)) > 3:
                continue
            logs = [
                log for log in machine.logs_up_to(family, 5)
                if machine.answer(family, question, log) != machine.answer(family, other, log)
            ]
            self.assertEqual(parting_log(family, question, other), logs[0] if logs else None)


class ImpliesTest(MachineCase):

    def test_examples(self):
        self.assertIs(implies(FAMILY, NO, YES), True)
        self.assertIs(implies(FAMILY, YES, NO), False)
        self.assertIs(implies(FAMILY, FIRST_A, once_of(FAMILY, LATEST)), True)
        self.assertIs(implies(FAMILY, once_of(FAMILY, LATEST), FIRST_A), False)
        for question in (LATEST, ODD, FIRST_A, YES, NO):
            self.assertIs(implies(FAMILY, question, question), True)
            self.assertIs(implies(FAMILY, NO, question), True)
            self.assertIs(implies(FAMILY, question, YES), True)
            self.assertIs(implies(FAMILY, question, NO), question == NO)
            self.assertIs(implies(FAMILY, YES, question), question == YES)

    def test_far_states(self):
        one = lasso(FAMILY, 'b', 59, 1)
        self.assertIs(implies(FAMILY, one, NO), False)
        self.assertIs(implies(FAMILY, lasso(FAMILY, 'b', 58, 1), one), False)
        self.assertIs(implies(FAMILY, one, lasso(FAMILY, 'b', 58, 1)), True)

    def test_many_questions(self):
        found = []
        for family, question, other in some_questions(211, 400):
            found.append(implies(family, question, other))
            self.assertIs(found[-1], machine.implies(family, question, other))
            both = implies(family, question, other) and implies(family, other, question)
            self.assertIs(both, are_alike(family, question, other))
        self.assertGreater(min(found.count(True), found.count(False)), 80)


class JointClassesTest(MachineCase):

    def test_examples(self):
        self.assertEqual(joint_classes(FAMILY, ODD, ODD), (0, 1, 1, 0, 1, 1))
        self.assertEqual(joint_classes(FAMILY, ODD, least_question(FAMILY, ODD)), (0, 1, 1, 0, 1))
        self.assertEqual(joint_classes(FAMILY, least_question(FAMILY, ODD), ODD), (0, 1, 0, 1, 1))
        self.assertIsNone(joint_classes(FAMILY, LATEST, ODD))
        self.assertIsNone(joint_classes(FAMILY, YES, NO))
        spare = ((False, True, True), ((2, 0, 0), (0, 1, 1), (2, 2, 0)))
        self.assertEqual(joint_classes(FAMILY, spare, LATEST), (0, None, 1, 0, 1))
        self.assertEqual(joint_classes(FAMILY, LATEST, spare), (0, 1, 0, None, 1))

    def test_many_questions(self):
        rng = random.Random(212)
        spare = 0
        for family, question, other in some_questions(213, 300):
            pairs = [(question, other), (question, doubled(rng, question)), (doubled(rng, other), other)]
            for one, two in pairs:
                found = joint_classes(family, one, two)
                if machine.least(family, one) != machine.least(family, two):
                    self.assertIsNone(found)
                    continue
                self.assertEqual(found, machine.classes(family, one) + machine.classes(family, two))
                self.assertIs(machine.are_joint_classes(one, two, found), True)
                self.assertIs(type(found), tuple)
                spare += None in found
        self.assertGreater(spare, 60)


class MadeTest(MachineCase):

    def test_examples(self):
        self.assertEqual(once_of(FAMILY, LATEST), ((False, True), ((1, 0, 0), (1, 1, 1))))
        self.assertEqual(opposite_of(FAMILY, LATEST), ((True, False), ((1, 0, 0), (1, 1, 0))))
        self.assertEqual(both_of(FAMILY, LATEST, NO), NO)
        self.assertEqual(both_of(FAMILY, LATEST, YES), LATEST)
        self.assertEqual(either_of(FAMILY, LATEST, NO), LATEST)
        self.assertEqual(either_of(FAMILY, LATEST, YES), YES)
        self.assertEqual(opposite_of(FAMILY, YES), NO)
        self.assertEqual(opposite_of(FAMILY, NO), YES)
        self.assertEqual(once_of(FAMILY, NO), NO)
        self.assertEqual(once_of(FAMILY, YES), YES)
        self.assertEqual(before_of(FAMILY, NO), NO)
        self.assertEqual(before_of(FAMILY, YES), ((False, True), ((1, 1, 1), (1, 1, 1))))
        self.assertEqual(since_of(FAMILY, NO, LATEST), LATEST)
        self.assertEqual(since_of(FAMILY, YES, LATEST), once_of(FAMILY, LATEST))
        self.assertEqual(since_of(FAMILY, LATEST, NO), NO)
        self.assertEqual(since_of(FAMILY, NO, YES), YES)

    def test_empty_log(self):
        for question in (YES, NO, LATEST, opposite_of(FAMILY, LATEST)):
            said = answer_to(FAMILY, question, ())
            for other in (YES, NO, ODD, opposite_of(FAMILY, ODD)):
                there = answer_to(FAMILY, other, ())
                self.assertIs(answer_to(FAMILY, both_of(FAMILY, question, other), ()), said and there)
                self.assertIs(answer_to(FAMILY, either_of(FAMILY, question, other), ()), said or there)
                self.assertIs(answer_to(FAMILY, since_of(FAMILY, question, other), ()), there)
            self.assertIs(answer_to(FAMILY, opposite_of(FAMILY, question), ()), not said)
            self.assertIs(answer_to(FAMILY, once_of(FAMILY, question), ()), said)
            self.assertIs(answer_to(FAMILY, before_of(FAMILY, question), ()), False)

    def test_what_the_words_say_of_each_log(self):
        rng = random.Random(214)
        for family, question, other in some_questions(215, 150):
            names = names_of(family)
            logs = machine.logs_up_to(family, 3 if len(names) < 4 else 2)
            logs = logs + [tuple(rng.choice(names) for _ in range(rng.randint(4, 12))) for _ in range(12)]
            both, either = both_of(family, question, other), either_of(family, question, other)
            once, before = once_of(family, question), before_of(family, question)
            opposite, since = opposite_of(family, question), since_of(family, question, other)
            for log in logs:
                said, there = machine.answer(family, question, log), machine.answer(family, other, log)
                self.assertIs(machine.answer(family, both, log), said and there)
                self.assertIs(machine.answer(family, either, log), said or there)
                self.assertIs(machine.answer(family, opposite, log), not said)
                self.assertIs(machine.answer(family, once, log), machine.is_once(family, question, log))
                self.assertIs(machine.answer(family, before, log), machine.is_before(family, question, log))
                self.assertIs(machine.answer(family, since, log), machine.is_since(family, question, other, log))

    def test_many_questions(self):
        for family, question, other in some_questions(216, 250):
            for kind in MAKERS:
                chosen = (question,) if kind in ONE_QUESTION else (question, other)
                self.least(family, self.check_made(kind, family, *chosen))
            opposite = self.least(family, opposite_of(family, question))
            small = machine.least(family, question)
            self.assertEqual(opposite, (tuple(not said for said in small[0]), small[1]))

    def test_made_of_made_ones(self):
        rng = random.Random(217)
        raised = 0
        for _ in range(70):
            family = rng.choice([TWO, FAMILY, (('a',), ('x', 'y')), (('b', 'c'), ('b',))])
            names = names_of(family)
            pool = [random_question(rng, family)]
            for _ in range(5):
                question = lasso(family, rng.choice(names), rng.randint(0, 3), rng.randint(2, 3))
                pool.append(question if rng.random() < 0.7 else opposite_of(family, question))
            for _ in range(8):
                kind = rng.choice(sorted(MAKERS) + ['both', 'either', 'since'])
                chosen = rng.sample(pool, 1 if kind in ONE_QUESTION else 2)
                found = self.check_made(kind, family, *chosen)
                raised += found is None
                if found is not None and len(found[0]) > 1:
                    pool.append(found)
        self.assertGreater(raised, 10)


class TooManyTest(MachineCase):
    """Exactly 60 places are no error, 61 are one."""

    def at_the_limit(self, kind, family, *questions):
        self.assertEqual(machine.number_of_places(kind, family, questions), 60)
        self.least(family, self.check_made(kind, family, *questions))

    def over_the_limit(self, kind, family, *questions, many=61):
        self.assertEqual(machine.number_of_places(kind, family, questions), many)
        self.assertIsNone(self.check_made(kind, family, *questions))

    def test_both_and_either(self):
        for kind in ('both', 'either'):
            for one, other in [((0, 12), (0, 5)), ((0, 60), (0, 1)), ((0, 20), (0, 30)), ((40, 20), (0, 10))]:
                for family in (ONE, TWO):
                    first, second = lasso(family, 'a', *one), lasso(family, 'a', *other)
                    self.at_the_limit(kind, family, first, second)
                    self.at_the_limit(kind, family, second, first)
            for one, other in [((1, 12), (0, 5)), ((0, 20), (1, 30)), ((41, 10), (0, 20))]:
                first, second = lasso(ONE, 'a', *one), lasso(ONE, 'a', *other)
                self.over_the_limit(kind, ONE, first, second)
                self.over_the_limit(kind, ONE, second, first)
            self.at_the_limit(kind, TWO, lasso(TWO, 'a', 0, 10), lasso(TWO, 'b', 0, 6))
            self.over_the_limit(kind, TWO, lasso(TWO, 'a', 3, 4), lasso(TWO, 'b', 5, 4), many=63)
            self.over_the_limit(kind, TWO, lasso(TWO, 'a', 0, 31), lasso(TWO, 'b', 0, 2), many=62)

    def test_questions_of_six_states(self):
        one, other = lasso(TWO, 'a', 0, 6), lasso(TWO, 'b', 0, 6)
        for kind in ('both', 'either'):
            self.assertEqual(machine.number_of_places(kind, TWO, (one, other)), 36)
            self.check_made(kind, TWO, one, other)
        self.over_the_limit('since', TWO, opposite_of(TWO, one), other)
        self.at_the_limit('both', FAMILY, both_of(FAMILY, lasso(FAMILY, 'a', 0, 5), lasso(FAMILY, 'b', 0, 6)),
                          lasso(FAMILY, 'c', 0, 2))

    def test_once(self):
        for tail, cycle in [(59, 1), (57, 2), (29, 16), (1, 30)]:
            self.at_the_limit('once', ONE, lasso(ONE, 'a', tail, cycle))
            self.at_the_limit('once', TWO, lasso(TWO, 'b', tail, cycle))
        for tail, cycle in [(58, 2), (30, 16), (0, 31), (2, 30)]:
            self.over_the_limit('once', ONE, lasso(ONE, 'a', tail, cycle))
            self.over_the_limit('once', TWO, lasso(TWO, 'b', tail, cycle))

    def test_before(self):
        for tail in (0, 1, 30, 56):
            self.at_the_limit('before', ONE, lasso(ONE, 'a', tail, 59 - tail))
            self.over_the_limit('before', ONE, lasso(ONE, 'a', tail, 60 - tail))
            self.at_the_limit('before', TWO, lasso(TWO, 'a', tail, 58 - tail))
            self.over_the_limit('before', TWO, lasso(TWO, 'a', tail, 59 - tail))

    def test_since(self):
        for family, name in ((ONE, 'a'), (TWO, 'b')):
            yes, no = ((True,), ((0,) * len(family[0]),)), ((False,), ((0,) * len(family[0]),))
            for tail, cycle in [(59, 1), (57, 2), (1, 30)]:
                self.at_the_limit('since', family, yes, lasso(family, name, tail, cycle))
            for tail, cycle in [(58, 2), (0, 31), (2, 30)]:
                self.over_the_limit('since', family, yes, lasso(family, name, tail, cycle))
            # If the first question always says no, each state of the second one has one bool.
            self.at_the_limit('since', family, no, lasso(family, name, 0, 60))
            self.at_the_limit('since', family, no, lasso(family, name, 59, 1))
        self.at_the_limit('since', ONE, lasso(ONE, 'a', 0, 20), lasso(ONE, 'a', 0, 3))
        self.over_the_limit('since', ONE, lasso(ONE, 'a', 0, 20), lasso(ONE, 'a', 1, 3))

    def test_read_with_the_least_questions(self):
        # Sixty states that are all alike count as one.
        steps = tuple((at + 1, 0) for at in range(59)) + ((0, 59),)
        for said in (True, False):
            wide = ((said,) * 60, steps)
            self.assertEqual(len(machine.states_behind_logs(TWO, wide)), 60)
            for kind in ('both', 'either', 'since'):
                self.at_the_limit(kind, TWO, wide, lasso(TWO, 'b', 59, 1))
            for kind in ONE_QUESTION:
                self.least(TWO, self.check_made(kind, TWO, wide))
        twice = ((True, False) * 30, tuple(((at + 1) % 60, (at + 31) % 60) for at in range(60)))
        self.assertEqual(len(machine.states_behind_logs(TWO, twice)), 60)
        for kind in ONE_QUESTION:
            self.least(TWO, self.check_made(kind, TWO, twice))
        self.at_the_limit('both', TWO, twice, lasso(TWO, 'a', 0, 30))

    def test_opposite_is_never_too_many(self):
        for tail, cycle in [(0, 60), (59, 1), (30, 30), (58, 2)]:
            for family in (ONE, TWO, FAMILY):
                question = lasso(family, 'a', tail, cycle)
                opposite = opposite_of(family, question)
                self.assertEqual(opposite, (tuple(not said for said in question[0]), question[1]))
                self.assertEqual(opposite_of(family, opposite), question)

    def test_behind_all_other_errors(self):
        one, other = lasso(TWO, 'a', 0, 31), lasso(TWO, 'b', 0, 31)
        for call in (both_of, either_of, since_of):
            check_raises(self, TooMany, call, TWO, one, other)
            check_raises(self, InvalidQuestion, call, TWO, one, None)
            check_raises(self, InvalidQuestion, call, TWO, None, other)
            check_raises(self, InvalidFamily, call, None, one, other)
        for call in (once_of, before_of):
            check_raises(self, TooMany, call, TWO, lasso(TWO, 'a', 0, 60))
            check_raises(self, InvalidFamily, call, None, lasso(TWO, 'a', 0, 60))
        for call in (are_alike, parting_log, implies, joint_classes):
            call(TWO, one, other)


class WrongArgumentsTest(MachineCase):

    def test_right_ones(self):
        for call, kinds in CALLS:
            check_right_ones(self, call, kinds)

    def test_each_argument(self):
        for call, kinds in CALLS:
            check_wrong_ones(self, call, kinds)

    def test_question_for_another_family(self):
        for call, kinds in CALLS:
            for at, kind in enumerate(kinds):
                if kind == 'q':
                    arguments = right_arguments(kinds)
                    arguments[at] = lasso(TWO, 'a', 0, 2)
                    check_raises(self, InvalidQuestion, call, *arguments)
                    arguments[at] = ((True,), ((0,) * 4,))
                    check_raises(self, InvalidQuestion, call, *arguments)

    def test_names_of_other_observers(self):
        # A log may have all names of the family, and no other ones.
        for name in 'abc':
            self.assertIs(type(answer_to(FAMILY, LATEST, (name,) * 3)), bool)
        check_raises(self, InvalidLog, answer_to, FAMILY, LATEST, ('d',))
        check_raises(self, InvalidLog, answer_to, TWO, lasso(TWO, 'a', 1, 1), ('a', 'c'))


class SameAgainTest(MachineCase):

    def test_same_result_in_another_run(self):
        program = (
            'from partviews.machines import *\n'
            'from tests.question_samples import some_questions\n'
            'for family, question, other in some_questions(218, 40):\n'
            '    print(least_question(family, question), parting_log(family, question, other))\n'
            '    print(both_of(family, question, other), since_of(family, question, other))\n'
        )
        found = other_runs(program)
        self.assertIn('True', found[0])
        self.assertEqual(found, found[:1] * 3)


if __name__ == '__main__':
    unittest.main()
