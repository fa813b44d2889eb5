"""Points 1 to 3 and 30 to 34 over the whole program: how its answers go together."""

import random
import unittest

from partviews.asking import Asking
from partviews.chosen import count_chosen
from partviews.errors import ViewError
from partviews.forever import forever, position_table, turning_logs
from partviews.groups import does_answer, least_groups, look_same, sees_as_much
from partviews.growing import begins, growing_log, growing_ring, missing
from partviews.joining import all_logs, count_logs, is_possible
from partviews.knowing import (
    common, depth_group, depth_of, everyone, first_known, is_known, known_sets, knows, leading_logs, other_log,
)
from partviews.logs import restrict
from partviews.machines import (
    answer_to, are_alike, both_of, either_of, implies, least_question, once_of, opposite_of, since_of,
)
from partviews.needs import needed_names
from partviews.records import judge
from partviews.verdicts import verdict
from tests import growing_reference as growing
from tests import table_reference as tables
from tests.need_reference import groups
from tests.question_samples import FAMILY, random_question, some_questions
from tests.samples import other_runs, random_cases, small_growing_cases
from tests.test_forever import some_cases as growing_cases

TURNED = {'yes': 'no', 'no': 'yes', 'both': 'both'}


class ForeverTest(unittest.TestCase):

    def test_opposites(self):
        for case, question in growing_cases(451, 100):
            opposite = opposite_of(growing.family_of(case), question)
            self.assertEqual(forever(case, opposite), TURNED[forever(case, question)])

    def test_logs_that_fit_begin_with_the_views(self):
        found = []
        for case, question in growing_cases(452, 250, 6):
            if not is_possible(case) or count_logs(case) > 200:
                continue
            self.assertEqual([begins(case, log) for log in all_logs(case)], [True] * count_logs(case))
            ever, now = forever(case, question), verdict(case, question)
            found.append((ever, now))
            self.assertIn(ever, (now, 'both'))
            if now == 'both':
                self.assertGreater(min(count_chosen(case, question, answer) for answer in (True, False)), 0)
        self.assertGreater(found.count(('yes', 'yes')) + found.count(('no', 'no')), 40)
        self.assertGreater(found.count(('both', 'yes')) + found.count(('both', 'no')), 40)

    def test_what_will_always_have_happened(self):
        # "Once" of what is answered yes to a log that begins with the views of all is for ever, if it is known.
        for case, question in growing_cases(453, 80):
            family = growing.family_of(case)
            ever = forever(case, question)
            once = once_of(family, question)
            if ever == 'yes':
                self.assertEqual(forever(case, once), 'yes')
            if forever(case, once) == 'no':
                self.assertEqual(ever, 'no')
            other = random_question(random.Random(len(case)), family, 2)
            if 'yes' == ever == forever(case, other):
                self.assertEqual(forever(case, both_of(family, question, other)), 'yes')
            if 'yes' in (ever, forever(case, other)):
                self.assertEqual(forever(case, either_of(family, question, other)), 'yes')

    def test_growing_logs_and_rings(self):
        # Exactly one of these exists: a growing log, or a growing ring; without a log there is no verdict.
        checked = [0, 0]
        for case in small_growing_cases()[::3]:
            family = growing.family_of(case)
            yes = ((True,), ((0,) * len(growing.names_of(family)),))
            log = growing_log(case)
            self.assertIs(log is None, growing_ring(case) is not None)
            checked[log is None] += 1
            if log is None:
                self.assertRaises(ViewError, forever, case, yes)
            elif len(tables.positions(case)) <= 1000:
                self.assertEqual(forever(case, yes), 'yes')
                self.assertIn(tuple(len(view) for _, view in case), dict(position_table(case, yes)))
        self.assertGreater(min(checked), 20)

    def test_turning_logs_and_answers(self):
        for case, question in growing_cases(454, 100):
            family = growing.family_of(case)
            logs = turning_logs(case, question)
            if logs is not None:
                self.assertEqual([answer_to(family, question, log) for log in logs], [True, False])
                self.assertEqual([begins(case, log) for log in logs], [True, True])
            if does_answer(family, tuple(range(len(family))), question) and not any(missing(case)) and not any(
                    needed_names(family, question)):
                self.assertIsNone(logs)


class KnowingTest(unittest.TestCase):

    def test_groups_of_one_that_answer(self):
        # An observer that answers a question always knows it or its opposite.
        answered = 0
        for family, question, _ in some_questions(455, 150, 4):
            opposite = opposite_of(family, question)
            for observer in range(len(family)):
                whole = either_of(family, knows(family, observer, question), knows(family, observer, opposite))
                always = not [True for answer in whole[0] if not answer]
                self.assertIs(does_answer(family, (observer,), question), always)
                answered += always
                self.assertIs(are_alike(family, knows(family, observer, question), question),
                              does_answer(family, (observer,), question))
        self.assertGreater(answered, 60)

    def test_known_questions_are_answered(self):
        for family, question, _ in some_questions(456, 80, 4):
            for observer in range(len(family)):
                known = knows(family, observer, question)
                self.assertIs(does_answer(family, (observer,), known), True)
                self.assertTrue(set(needed_names(family, known)) <= set(family[observer]))
            for group in groups(family)[1:]:
                shared = common(family, group, question)
                for observer in group:
                    self.assertIs(does_answer(family, (observer,), shared), True)
                self.assertIs(does_answer(family, group, everyone(family, group, question)), True)

    def test_who_sees_more_knows_more(self):
        for family, question, _ in some_questions(457, 80, 4):
            for observer in range(len(family)):
                for other in range(len(family)):
                    if sees_as_much(family, (observer,), (other,)):
                        one, two = knows(family, observer, question), knows(family, other, question)
                        self.assertIs(implies(family, two, one), True)

    def test_implied_questions_are_known(self):
        for family, question, other in some_questions(458, 80, 4):
            either = either_of(family, question, other)
            both = both_of(family, question, other)
            for observer in range(len(family)):
                known = knows(family, observer, question)
                self.assertIs(implies(family, known, knows(family, observer, either)), True)
                further = both_of(family, known, knows(family, observer, other))
                self.assertEqual(knows(family, observer, both), further)

    def test_made_as_many_times_as_the_depth(self):
        for family, question, _ in some_questions(459, 60, 3):
            group = tuple(range(len(family)))
            made = least_question(family, question)
            try:
                for _ in range(depth_of(family, group)):
                    made = everyone(family, group, made)
                self.assertEqual(made, common(family, group, question))
                self.assertEqual(common(family, depth_group(family, group) or group[:1], question), made)
            except ViewError:
                continue

    def test_what_is_not_known_is_shown(self):
        rng = random.Random(460)
        for family, question, _ in some_questions(461, 100, 4):
            names = growing.names_of(family)
            log = tuple(rng.choice(names) for _ in range(rng.randint(0, 6)))
            for observer, known in enumerate(family):
                other = other_log(family, observer, question, log)
                self.assertIs(other is None, is_known(family, observer, question, log))
                self.assertEqual(is_known(family, observer, question, restrict(log, known)), other is None)
                if other is not None:
                    self.assertIs(look_same(family, (observer,), log, other), True)
                    self.assertIs(answer_to(family, question, other), False)
                    logs = leading_logs(family, (observer,), question, log)
                    self.assertEqual(logs[0], log)
                    self.assertIs(answer_to(family, question, logs[-1]), False)

    def test_first_known(self):
        rng = random.Random(462)
        for family, question, _ in some_questions(463, 80, 4):
            names = growing.names_of(family)
            log = tuple(rng.choice(names) for _ in range(8))
            for observer in range(len(family)):
                size = first_known(family, observer, question, log)
                once = once_of(family, knows(family, observer, question))
                self.assertIs(answer_to(family, once, log), size is not None)
                if size:
                    self.assertIs(is_known(family, observer, question, log[:size]), True)
                    self.assertIs(answer_to(family, once, log[:size - 1]), False)
                since = since_of(family, least_question(family, question), knows(family, observer, question))
                if answer_to(family, since, log):
                    self.assertIsNotNone(size)


class AskingTest(unittest.TestCase):

    def test_verdicts_and_knowers(self):
        rng = random.Random(464)
        for case, question in growing_cases(465, 40, 6):
            family = growing.family_of(case)
            space = Asking(family)
            space.ask(question)
            # Any order in which the events of the growing log are seen makes these views.
            log = growing_log(case)
            places = [0] * len(case)
            for name in log:
                for observer, (known, view) in enumerate(case):
                    if name in known and places[observer] < len(view):
                        space.see(observer, name)
                        places[observer] += 1
                        if rng.random() < 0.2:
                            space.mark() if len(space.marks()) < 6 else space.back(5)
                            places = [len(row) for row in space.views()]
            if space.case() != case:
                continue
            self.assertEqual(space.verdicts(), [forever(case, question)])
            for observer in space.knowers(0):
                sets = known_sets(family, observer, question, case[observer][1])
                self.assertEqual(judge(('known', family, observer, question, case[observer][1], sets)), ('right',))


class SameAgainTest(unittest.TestCase):

    def test_same_results_in_another_run(self):
        program = (
            'from partviews.asking import Asking\n'
            'from partviews.chosen import chosen_log, count_chosen\n'
            'from partviews.forever import forever, position_table, turning_logs\n'
            'from partviews.verdicts import all_cuts, cut_table, first_log, verdict\n'
            'from tests.test_forever import some_cases as growing_cases\n'
            'from tests.test_verdicts import some_cases as possible_cases\n'
            'for case, question in possible_cases(466, 20):\n'
            '    print(all_cuts(case), cut_table(case, question), verdict(case, question))\n'
            '    print([first_log(case, question, answer) for answer in (True, False)])\n'
            '    print([count_chosen(case, question, answer) for answer in (True, False)])\n'
            'for case, question in growing_cases(467, 20):\n'
            '    print(forever(case, question), turning_logs(case, question), position_table(case, question))\n'
            '    space = Asking(tuple(names for names, view in case))\n'
            '    print(space.ask(question), space.verdicts(), space.knowers(0))\n'
        )
        found = other_runs(program)
        self.assertIn('both', found[0])
        self.assertEqual(found, found[:1] * 3)

    def test_the_program_raises_errors_of_its_own_only(self):
        # Impossible cases, and cases of many events, under functions of all stages.
        for case in random_cases(468, 60, 30):
            family = growing.family_of(case)
            question = ((True, False), ((1,) * len(growing.names_of(family)), (0,) * len(growing.names_of(family))))
            for call in (verdict, forever, turning_logs, position_table):
                try:
                    call(case, question)
                except ViewError:
                    continue

    def test_least_groups_know(self):
        for family, question, _ in some_questions(469, 60, 4):
            for group in least_groups(family, question):
                if len(group) == 1:
                    self.assertEqual(knows(family, group[0], question), least_question(family, question))
        self.assertEqual(least_groups(FAMILY, knows(FAMILY, 0, ((False, True), ((0, 1, 0), (1, 0, 1))))), [(0,), (1,)])


if __name__ == '__main__':
    unittest.main()
