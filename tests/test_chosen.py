"""Point 29 and partviews/chosen.py."""

import random
import unittest
from math import comb

from partviews.chosen import chosen_log, chosen_place, count_chosen
from partviews.errors import Impossible, InvalidCase, InvalidLog, InvalidNumber, TooMany
from partviews.verdicts import first_log
from partviews.wrongs import InvalidQuestion
from tests import growing_reference as growing
from tests import machine_reference as machine
from tests import reference
from tests import table_reference as tables
from tests.question_samples import (
    ANY_VALUES, BAD_LOGS, FIRST_A, LATEST, NO, YES, check_right_ones, check_wrong_ones, counter, random_question,
)
from tests.samples import GOOD_CASE, RING_CASE, check_raises, possible_case, random_family
from tests.test_verdicts import EXACTLY_300, MORE_THAN_300, some_cases

CALLS = [(count_chosen, 'cqb'), (chosen_place, 'cqbl')]
TWO = (('a',), ('b',))


def bad_places(many):
    return [value for value in ANY_VALUES if type(value) is not int] + [
        many, many + 1, -1, -2, -many - 1, 10 ** 30, -10 ** 30, True, False, None, '0', (0,), [0], (), [],
    ]


class ChosenTest(unittest.TestCase):

    def check(self, case, question):
        for answer in (True, False):
            logs = tables.chosen(case, question, answer)
            self.assertEqual(logs, sorted(logs))
            self.assertEqual(count_chosen(case, question, answer), len(logs))
            self.assertEqual([chosen_log(case, question, answer, at) for at in range(len(logs))], logs)
            self.assertEqual([chosen_place(case, question, answer, log) for log in logs], list(range(len(logs))))
            for value in (len(logs), len(logs) + 1, -1, True, False):
                check_raises(self, InvalidNumber, chosen_log, case, question, answer, value)
            self.assertEqual(first_log(case, question, answer), logs[0] if logs else None)
        return [len(tables.chosen(case, question, answer)) for answer in (True, False)]

    def check_places(self, case, question, others):
        for answer in (True, False):
            logs = tables.chosen(case, question, answer)
            for log in others:
                right = len([1 for one in logs if one < log])
                self.assertEqual(chosen_place(case, question, answer, log), right, (case, question, answer, log))

    def test_examples(self):
        self.assertEqual(count_chosen(GOOD_CASE, LATEST, True), 2)
        self.assertEqual(chosen_log(GOOD_CASE, LATEST, True, 1), ('c', 'a', 'b', 'a'))
        self.assertEqual(chosen_place(GOOD_CASE, LATEST, True, ('b',)), 1)
        self.assertEqual(self.check(GOOD_CASE, LATEST), [2, 0])
        self.assertEqual(self.check(GOOD_CASE, FIRST_A), [1, 1])

    def test_cases_without_events(self):
        empty = ((('a', 'b'), ()), (('b', 'c'), ()))
        for question, right in [(LATEST, [0, 1]), (YES, [1, 0]), (NO, [0, 1])]:
            self.assertEqual(self.check(empty, question), right)
            self.check_places(empty, question, [(), ('a',), ('c', 'c')])
        self.assertEqual(chosen_log(empty, YES, True, 0), ())
        self.assertEqual([chosen_place(empty, YES, True, log) for log in [(), ('a',)]], [0, 1])

    def test_places_of_other_logs(self):
        logs = machine.logs_up_to(growing.family_of(GOOD_CASE), 5)
        for question in (YES, LATEST, FIRST_A, NO):
            self.check_places(GOOD_CASE, question, logs)
        fitting = ('a', 'c', 'b', 'a')
        self.assertEqual(chosen_place(GOOD_CASE, YES, True, fitting), 0)
        self.assertEqual(chosen_place(GOOD_CASE, YES, True, fitting[:3]), 0)
        self.assertEqual(chosen_place(GOOD_CASE, YES, True, fitting + ('a',)), 1)
        self.assertEqual(chosen_place(GOOD_CASE, NO, True, fitting + ('a',)), 0)
        self.assertEqual(chosen_place(GOOD_CASE, YES, True, ()), 0)
        self.assertEqual(chosen_place(GOOD_CASE, YES, True, ('c',) * 300), 2)
        self.assertEqual(chosen_place(GOOD_CASE, YES, True, ('c', 'a', 'b', 'a') * 60), 2)

    def test_many_cases(self):
        rng = random.Random(341)
        found = []
        for case, question in some_cases(342, 150):
            found.append(self.check(case, question))
            names = growing.names_of(growing.family_of(case))
            logs = reference.logs(case)
            others = [tuple(rng.choice(names) for _ in range(rng.randint(0, 9))) for _ in range(6)] + [()]
            for log in rng.sample(logs, min(4, len(logs))):
                at = rng.randint(0, len(log))
                others += [log, log[:at], log + (rng.choice(names),), log[:at] + (rng.choice(names),) + log[at + 1:]]
                others += [log[:at] + (rng.choice(names),) + log[at:]]
            self.check_places(case, question, others)
        self.assertGreater(len([1 for one, other in found if one and other]), 20)
        self.assertGreater(max(max(pair) for pair in found), 9)

    def test_many_logs(self):
        # Logs with 14 events a and 19 events b: 818,809,200.
        yes = ((True,), ((0, 0),))
        self.assertEqual(count_chosen(EXACTLY_300, yes, True), comb(33, 14))
        self.assertEqual(count_chosen(EXACTLY_300, yes, False), 0)
        rng = random.Random(343)
        many = comb(33, 14)
        for place in [0, 1, 200, many - 1, many // 2] + [rng.randrange(many) for _ in range(10)]:
            log = chosen_log(EXACTLY_300, yes, True, place)
            # How many stand before it: wherever it has a name b, those that have a name a there.
            before = 0
            for at, name in enumerate(log):
                if name == 'b' and log[:at].count('a') < 14:
                    before += comb(32 - at, 13 - log[:at].count('a'))
            self.assertEqual(before, place)
            self.assertEqual((log.count('a'), log.count('b')), (14, 19))
            self.assertEqual(chosen_place(EXACTLY_300, yes, True, log), place)
            self.assertEqual(chosen_place(EXACTLY_300, yes, True, log + ('a',)), place + 1)
        for value in bad_places(many):
            check_raises(self, InvalidNumber, chosen_log, EXACTLY_300, yes, True, value)

    def test_many_logs_of_questions(self):
        rng = random.Random(344)
        found = 0
        for _ in range(80):
            family = random_family(rng, most_observers=4, most_names=5, most_in_set=2)
            if rng.random() < 0.5:
                family = rng.choice([(('a', 'b'), ('c', 'd')), (('a', 'b'), ('c',), ('c', 'd')), (('b', 'c'), ('a',))])
            case = possible_case(rng, family, 18)
            question = random_question(rng, family)
            try:
                numbers = [count_chosen(case, question, answer) for answer in (True, False)]
            except TooMany:
                continue
            for answer, many in zip((True, False), numbers):
                self.assertEqual(many, tables.number_of_chosen(case, question, answer))
                places = sorted({0, 1, many - 1, many // 2, many // 3} & set(range(many)))
                logs = [chosen_log(case, question, answer, place) for place in places]
                self.assertEqual(logs, sorted(set(logs)))
                for place, log in zip(places, logs):
                    self.assertIs(machine.answer(family, question, log), answer)
                    self.assertEqual(tuple((names, reference.kept(log, names)) for names in family), case)
                    self.assertEqual(chosen_place(case, question, answer, log), place)
                check_raises(self, InvalidNumber, chosen_log, case, question, answer, many)
                found += many > 200
        self.assertGreater(found, 10)


class ErrorsTest(unittest.TestCase):

    def test_right_ones(self):
        for call, kinds in CALLS:
            check_right_ones(self, call, kinds)

    def test_wrong_ones(self):
        for call, kinds in CALLS + [(chosen_log, 'cqbv')]:
            check_wrong_ones(self, call, kinds)

    def test_places(self):
        for question, answer, many in [(YES, True, 2), (LATEST, True, 2), (LATEST, False, 0), (FIRST_A, False, 1)]:
            for value in bad_places(many):
                check_raises(self, InvalidNumber, chosen_log, GOOD_CASE, question, answer, value)
            for place in range(many):
                chosen_log(GOOD_CASE, question, answer, place)

    def test_order_of_the_errors(self):
        question = counter(TWO, 'a', 2)
        for value in (None, -1, True, 10 ** 30):
            check_raises(self, TooMany, chosen_log, MORE_THAN_300, question, True, value)
            check_raises(self, Impossible, chosen_log, RING_CASE, LATEST, True, value)
            check_raises(self, InvalidQuestion, chosen_log, RING_CASE, None, True, value)
            check_raises(self, InvalidCase, chosen_log, None, None, True, value)
        check_raises(self, TooMany, chosen_log, MORE_THAN_300, question, True, 0)
        check_raises(self, TooMany, count_chosen, MORE_THAN_300, question, True)
        check_raises(self, Impossible, count_chosen, RING_CASE, LATEST, True)
        check_raises(self, TooMany, chosen_place, MORE_THAN_300, question, True, ('a',))
        check_raises(self, Impossible, chosen_place, RING_CASE, LATEST, True, ('a',))
        for value in BAD_LOGS:
            check_raises(self, InvalidLog, chosen_place, RING_CASE, LATEST, True, value)
            if value not in (('d',), ('x',) * 130):
                check_raises(self, InvalidLog, chosen_place, MORE_THAN_300, question, True, value)
            check_raises(self, InvalidQuestion, chosen_place, RING_CASE, None, True, value)

    def test_impossible_with_many_cuts(self):
        case = MORE_THAN_300 + ((('a', 'b'), ('a',)),)
        question = counter(TWO, 'a', 2)
        check_raises(self, Impossible, count_chosen, case, question, True)
        check_raises(self, Impossible, chosen_log, case, question, True, -1)
        check_raises(self, Impossible, chosen_place, case, question, True, ())


if __name__ == '__main__':
    unittest.main()
