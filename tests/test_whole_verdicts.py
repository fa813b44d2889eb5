"""Points 3 and 25 to 29 over the whole program: how its answers go together."""

import random
import unittest

from partviews.certain import both_orders, undecided
from partviews.chosen import chosen_log, chosen_place, count_chosen
from partviews.groups import (
    does_answer, further_names, greatest_groups, least_groups, look_same, parting_logs, sees_as_much, telling_question,
)
from partviews.joining import all_logs, count_logs, least_log
from partviews.logs import fits
from partviews.machines import (
    answer_to, before_of, both_of, either_of, joint_classes, least_question, once_of, opposite_of,
)
from partviews.needs import are_classes, classes_of, need_logs, needed_names, needed_pairs
from partviews.verdicts import all_cuts, cut_table, first_log, is_cut_table, verdict
from tests import growing_reference as growing
from tests.question_samples import doubled, random_question, some_questions
from tests.test_verdicts import some_cases

TURNED = {'yes': 'no', 'no': 'yes', 'both': 'both'}


class VerdictsTest(unittest.TestCase):

    def test_opposites(self):
        for case, question in some_cases(351, 120):
            family = growing.family_of(case)
            opposite = opposite_of(family, question)
            self.assertEqual(verdict(case, opposite), TURNED[verdict(case, question)])
            for answer in (True, False):
                self.assertEqual(first_log(case, opposite, answer), first_log(case, question, not answer))
                self.assertEqual(count_chosen(case, opposite, answer), count_chosen(case, question, not answer))

    def test_numbers_of_logs(self):
        for case, question in some_cases(352, 120):
            numbers = [count_chosen(case, question, answer) for answer in (True, False)]
            self.assertEqual(sum(numbers), count_logs(case))
            self.assertEqual(verdict(case, question), {(True, False): 'yes', (False, True): 'no'}.get(
                tuple(many > 0 for many in numbers), 'both'))
            for answer, many in zip((True, False), numbers):
                first = chosen_log(case, question, answer, 0) if many else None
                self.assertEqual(first_log(case, question, answer), first)
            firsts = [log for log in (first_log(case, question, True), first_log(case, question, False)) if log]
            self.assertEqual(min(firsts, default=()), least_log(case))

    def test_places_of_both_answers(self):
        for case, question in some_cases(353, 80):
            for at, log in enumerate(all_logs(case)):
                self.assertIs(fits(case, log), True)
                places = [chosen_place(case, question, answer, log) for answer in (True, False)]
                self.assertEqual(sum(places), at)
                said = answer_to(growing.family_of(case), question, log)
                self.assertEqual(chosen_log(case, question, said, chosen_place(case, question, said, log)), log)

    def test_the_group_of_all_observers(self):
        answered = 0
        for case, question in some_cases(354, 150):
            family = growing.family_of(case)
            everyone = tuple(range(len(family)))
            if does_answer(family, everyone, question):
                answered += 1
                self.assertNotEqual(verdict(case, question), 'both')
                self.assertNotIn(everyone, greatest_groups(family, question))
            else:
                self.assertEqual(least_groups(family, question), [])
                self.assertEqual(greatest_groups(family, question), [everyone])
        self.assertGreater(min(answered, 150 - answered), 30)

    def test_alike_questions(self):
        rng = random.Random(355)
        for case, question in some_cases(356, 80):
            family = growing.family_of(case)
            twin = doubled(rng, question)
            self.assertEqual(verdict(case, twin), verdict(case, question))
            for answer in (True, False):
                self.assertEqual(first_log(case, twin, answer), first_log(case, question, answer))
                self.assertEqual(count_chosen(case, twin, answer), count_chosen(case, question, answer))
            # The table of the least question is the one of the question, by the numbers of its classes.
            classes = classes_of(family, twin)
            renamed = [(cut, tuple(sorted({classes[state] for state in states}))) for cut, states in
                       cut_table(case, twin)]
            self.assertEqual(cut_table(case, least_question(family, question)), renamed)

    def test_both_and_either(self):
        rng = random.Random(357)
        for case, question in some_cases(358, 80):
            family = growing.family_of(case)
            other = random_question(rng, family)
            numbers = [count_chosen(case, made, True) for made in (
                both_of(family, question, other), either_of(family, question, other), question, other)]
            self.assertEqual(numbers[0] + numbers[1], numbers[2] + numbers[3])

    def test_tables_of_cuts(self):
        for case, question in some_cases(359, 60):
            table = cut_table(case, question)
            self.assertEqual([cut for cut, _ in table], all_cuts(case))
            self.assertIs(is_cut_table(case, question, table), True)
            answers = {question[0][state] for state in table[-1][1]}
            self.assertEqual(verdict(case, question) == 'both', len(answers) == 2)
            for at in range(len(table)):
                self.assertIs(is_cut_table(case, question, table[:at] + table[at + 1:]), False)

    def test_both_orders_are_told_apart(self):
        # Which of two undecided events of different names comes first is a question with the verdict "both".
        for case, _ in some_cases(360, 60):
            family = growing.family_of(case)
            names = growing.names_of(family)
            for (one, k), (other, many) in undecided(case)[:3]:
                # States count the events with both names, up to where one of them is the one that is asked for.
                places = [(p, q) for p in range(k) for q in range(many)] + ['first', 'second']
                steps = []
                for place in places:
                    row = []
                    for name in names:
                        if name not in (one, other) or place in ('first', 'second'):
                            row.append(places.index(place))
                            continue
                        p, q = place[0] + (name == one), place[1] + (name == other)
                        row.append(places.index('first' if p == k else 'second' if q == many else (p, q)))
                    steps.append(tuple(row))
                question = (tuple(place == 'first' for place in places), tuple(steps))
                self.assertEqual(verdict(case, question), 'both')
                orders = both_orders(case, (one, k), (other, many))
                self.assertEqual((first_log(case, question, True), first_log(case, question, False)), orders)


class GroupsTest(unittest.TestCase):

    def test_what_groups_answer_of_made_questions(self):
        for family, question, other in some_questions(361, 80):
            for group in least_groups(family, question) + least_groups(family, other):
                self.assertIs(does_answer(family, group, opposite_of(family, question)),
                              does_answer(family, group, question))
                if does_answer(family, group, question) and does_answer(family, group, other):
                    self.assertIs(does_answer(family, group, both_of(family, question, other)), True)
                    self.assertIs(does_answer(family, group, either_of(family, question, other)), True)

    def test_least_and_greatest_groups(self):
        for family, question, _ in some_questions(362, 120):
            least, greatest = least_groups(family, question), greatest_groups(family, question)
            for group in least:
                self.assertIsNone(parting_logs(family, group, question))
                self.assertEqual(further_names(family, group, question), ())
            for group in greatest:
                one, other = parting_logs(family, group, question)
                self.assertIs(look_same(family, group, one, other), True)
                self.assertIsNot(answer_to(family, question, one), answer_to(family, question, other))
                self.assertTrue(set(further_names(family, group, question)) <= set(needed_names(family, question)))
                self.assertEqual([part for part in least if set(part) <= set(group)], [])

    def test_telling_questions(self):
        for family, _, _ in some_questions(363, 80):
            for observer in range(len(family)):
                for other in range(len(family)):
                    question = telling_question(family, (observer,), (other,))
                    self.assertIs(question is None, sees_as_much(family, (observer,), (other,)))
                    if question is not None:
                        self.assertIs(does_answer(family, (other,), question), True)
                        self.assertIs(does_answer(family, (observer,), question), False)

    def test_needs_of_made_questions(self):
        for family, question, other in some_questions(364, 120):
            names = set(needed_names(family, question)) | set(needed_names(family, other))
            self.assertTrue(set(needed_names(family, both_of(family, question, other))) <= names)
            self.assertEqual(needed_names(family, opposite_of(family, question)), needed_names(family, question))
            self.assertEqual(needed_pairs(family, opposite_of(family, question)), needed_pairs(family, question))
            self.assertTrue(set(needed_names(family, once_of(family, question))) <= set(needed_names(family, question)))
            if len(least_question(family, before_of(family, question))[0]) > 1 and answer_to(
                    family, question, ()) is True:
                self.assertEqual(needed_names(family, before_of(family, question)), growing.names_of(family))

    def test_need_logs(self):
        for family, question, _ in some_questions(365, 80):
            for pair in needed_pairs(family, question):
                first, second = need_logs(family, question, pair)
                said = answer_to(family, question, first + pair + second)
                self.assertIsNot(answer_to(family, question, first + pair[::-1] + second), said)
            self.assertEqual([need_logs(family, question, (name,)) is not None for name in growing.names_of(family)],
                             [name in needed_names(family, question) for name in growing.names_of(family)])

    def test_classes_of_alike_questions(self):
        rng = random.Random(366)
        for family, question, _ in some_questions(367, 80):
            twin = doubled(rng, question)
            self.assertEqual(joint_classes(family, question, twin), classes_of(family, question) + classes_of(
                family, twin))
            self.assertIs(are_classes(family, twin, classes_of(family, twin)), True)
            small = least_question(family, question)
            self.assertEqual(classes_of(family, small), tuple(range(len(small[0]))))


if __name__ == '__main__':
    unittest.main()
