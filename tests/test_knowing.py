"""Points 31 and 32 and partviews/knowing.py."""

import random
import unittest
from itertools import combinations

from partviews.errors import InvalidObserver, TooMany
from partviews.groups import look_same
from partviews.knowing import (
    common, common_sets, deep_question, depth_group, depth_of, everyone, first_known, is_known, known_sets, knows,
    leading_logs, other_log,
)
from partviews.machines import (
    answer_to, are_alike, either_of, implies, is_question, least_question, once_of, opposite_of,
)
from partviews.wrongs import InvalidGroup
from tests import knowing_reference as reference
from tests import machine_reference as machine
from tests.growing_reference import names_of
from tests.need_reference import groups
from tests.question_samples import (
    BAD_OBSERVERS, FAMILY, FIRST_A, LATEST, NO, ODD, YES, check_right_ones, check_wrong_ones, counter, doubled, lasso,
    random_question, some_questions,
)
from tests.reference import kept
from tests.samples import check_new_lists, check_raises, cycle_family, other_runs, random_family

CALLS = [
    (knows, 'foq'), (everyone, 'fhq'), (common, 'fhq'), (is_known, 'foql'), (known_sets, 'foql'), (other_log, 'foql'),
    (first_known, 'foql'), (common_sets, 'fhql'), (leading_logs, 'fhql'), (depth_of, 'fh'), (depth_group, 'fh'),
    (deep_question, 'fh'),
]
TRIANGLE = (('a', 'b'), ('b', 'c'), ('a', 'c'))
TWO = (('a',), ('b',))


def jumping(tail, cycle, source, target):
    """A lasso by the name a, in which the name c leads from one state to another one, and the answer is mostly yes."""
    size = tail + cycle
    steps = tuple(
        (at + 1 if at + 1 < size else tail, at, target if at == source else at) for at in range(size)
    )
    return (tuple(at != size - 1 for at in range(size)), steps)


def all_but_one(size, further=()):
    """A family of which each observer sees all of so many names but one of its own, and perhaps further names."""
    names = 'abcdefgh'[:size]
    return tuple(tuple(sorted([name for name in names if name != own] + list(further))) for own in names)


def many_families(seed, many):
    rng = random.Random(seed)
    found = [all_but_one(size) for size in range(2, 7)] + [all_but_one(4, ('x',)), all_but_one(3) * 2]
    while len(found) < many:
        family = cycle_family(rng, rng.randint(3, 6)) if rng.random() < 0.3 else random_family(rng)
        if rng.random() < 0.4:
            names = names_of(family)[:6]
            family = tuple(tuple(name for name in names if name != rng.choice(names)) or (names[0],) for _ in family)
        found.append(family)
    return found


def questions_and_logs(seed, many, most=6, length=6):
    """Tuples (family, question, log)."""
    rng = random.Random(seed)
    found = []
    for family, question, _ in some_questions(seed, many, most):
        names = names_of(family)
        found.append((family, question, tuple(rng.choice(names) for _ in range(rng.randint(0, length)))))
    return found


class KnowsTest(unittest.TestCase):

    def check(self, family, observer, question):
        right = reference.knows(family, family[observer], question)
        if right is None:
            check_raises(self, TooMany, knows, family, observer, question)
            return None
        found = knows(family, observer, question)
        self.assertEqual(found, right, (family, observer, question))
        self.assertIs(is_question(family, found), True)
        return found

    def test_examples(self):
        self.assertEqual(knows(FAMILY, 0, LATEST), NO)
        self.assertEqual(
            knows(FAMILY, 0, opposite_of(FAMILY, LATEST)), ((True, False), ((1, 0, 0), (1, 1, 1))))
        for observer in (0, 1):
            for question in (LATEST, FIRST_A, opposite_of(FAMILY, LATEST), once_of(FAMILY, LATEST)):
                self.check(FAMILY, observer, question)
            small = least_question(FAMILY, ODD)
            self.assertEqual(self.check(FAMILY, observer, ODD), small)

    def test_questions_that_need_nothing(self):
        for family in (FAMILY, TRIANGLE, (('a', 'b', 'c'),) * 6):
            for observer in range(len(family)):
                self.assertEqual(self.check(family, observer, YES), YES)
                self.assertEqual(self.check(family, observer, NO), NO)
                self.assertEqual(self.check(family, observer, ((True, True), ((1, 0, 1), (0, 0, 0)))), YES)

    def test_observers_that_see_all_names(self):
        family = (('a', 'b', 'c'), ('b',))
        for question in (LATEST, ODD, FIRST_A, lasso(family, 'c', 30, 30), counter(family, 'a', 60)):
            self.assertEqual(self.check(family, 0, question), machine.least(family, question))

    def test_names_that_are_not_seen(self):
        happened = ((False, True), ((1, 0, 0), (1, 1, 1)))
        never = opposite_of(FAMILY, happened)
        self.assertEqual(self.check(FAMILY, 1, happened), NO)
        self.assertEqual(self.check(FAMILY, 1, never), NO)
        self.assertEqual(self.check(FAMILY, 0, happened), happened)
        self.assertEqual(self.check(FAMILY, 0, never), never)

    def test_many_questions(self):
        many = set()
        for family, question, _ in some_questions(381, 150):
            for observer in range(len(family)):
                found = self.check(family, observer, question)
                many.add(len(found[0]) if found else None)
        self.assertGreater(len(many), 5)

    def test_exactly_60_sets(self):
        for tail, cycle, source, target, many in [
                (0, 9, 3, 4, 60), (0, 11, 5, 10, 60), (8, 10, 16, 4, 60), (8, 11, 14, 9, 60), (0, 9, 4, 5, 61),
                (0, 10, 4, 7, 61), (8, 11, 15, 10, 61), (0, 9, 2, 3, 59), (0, 9, 5, 6, 62), (0, 11, 9, 10, 100)]:
            question = jumping(tail, cycle, source, target)
            self.assertEqual(reference.number_of_sets(FAMILY, ('a', 'b'), question), many)
            self.assertIs(self.check(FAMILY, 0, question) is None, many > 60)
            self.assertIs(self.check(((('a', 'b'), ('b', 'c')) * 2)[:3], 2, question) is None, many > 60)

    def test_the_least_question_counts(self):
        rng = random.Random(380)
        for tail, cycle, source, target, many in [(0, 9, 3, 4, 60), (0, 9, 2, 3, 59), (0, 9, 4, 5, 61)]:
            question = jumping(tail, cycle, source, target)
            twins = [doubled(rng, question, 14) for _ in range(40)]
            wide = [twin for twin in twins if reference.number_of_own_sets(FAMILY, ('a', 'b'), twin) > 61]
            self.assertGreater(len(wide), 5)
            for twin in wide[:6]:
                self.assertIs(self.check(FAMILY, 0, twin) is None, many > 60)
        # States that are all alike are one state.
        alike = ((True,) * 9, jumping(0, 9, 4, 5)[1])
        self.assertEqual(reference.number_of_own_sets(FAMILY, ('a', 'b'), alike), 61)
        self.assertEqual(self.check(FAMILY, 0, alike), YES)

    def test_very_many_sets(self):
        # Whether a name a stood so many events ago: each of these events makes the number of last tuples twice as many.
        size = 40
        steps = [(0, 0, 1), (2, 0, 1)] + [(at + 1, at + 1, at) for at in range(2, size - 1)] + [(0, 0, size - 1)]
        question = (tuple(at != size - 1 for at in range(size)), tuple(steps))
        check_raises(self, TooMany, knows, FAMILY, 0, question)
        check_raises(self, TooMany, everyone, FAMILY, (0, 1), question)
        check_raises(self, TooMany, common, FAMILY, (0,), question)
        log = ('a', 'b', 'c') * 30
        self.assertIs(is_known(FAMILY, 0, question, log), False)
        self.assertEqual(known_sets(FAMILY, 0, question, log), reference.known_sets(FAMILY, FAMILY[0], question, log))
        self.assertEqual(first_known(FAMILY, 0, question, log), 0)
        self.assertIs(answer_to(FAMILY, question, other_log(FAMILY, 0, question, log)), False)

    def test_what_point_32_says_at_last(self):
        for family, question, _ in some_questions(382, 120, 4):
            for observer in range(len(family)):
                known = knows(family, observer, question)
                self.assertIs(implies(family, known, question), True)
                self.assertEqual(knows(family, observer, known), known)
                unknown = opposite_of(family, known)
                self.assertEqual(knows(family, observer, unknown), unknown)
                once = once_of(family, known)
                self.assertEqual(knows(family, observer, once), once)

    def test_told_that_another_question_is_answered_yes(self):
        rng = random.Random(383)
        for family, question, other in some_questions(384, 40, 3):
            if len(names_of(family)) > 3:
                continue
            told = either_of(family, opposite_of(family, other), question)
            observer = rng.randrange(len(family))
            for log in machine.logs_up_to(family, 2):
                logs = [one for one in machine.logs_up_to(family, 5) if kept(one, family[observer]) == kept(
                    log, family[observer]) and machine.answer(family, other, one)]
                if not all(machine.answer(family, question, one) for one in logs):
                    self.assertIs(is_known(family, observer, told, log), False)
                known = knows(family, observer, told)
                self.assertIs(is_known(family, observer, told, log), answer_to(family, known, log))


class KnownTest(unittest.TestCase):

    def check(self, family, observer, question, log):
        names = family[observer]
        right = reference.is_known(family, names, question, log)
        self.assertIs(is_known(family, observer, question, log), right, (family, observer, question, log))
        sets = known_sets(family, observer, question, log)
        self.assertEqual(sets, reference.known_sets(family, names, question, log))
        self.assertEqual([type(states) for states in [sets] + sets], [list] + [tuple] * len(sets))
        other = other_log(family, observer, question, log)
        self.assertIs(other is None, right)
        if other is not None:
            self.assertIs(type(other), tuple)
            self.assertTrue(set(other) <= set(names_of(family)))
            self.assertEqual(kept(other, names), kept(log, names))
            self.assertIs(machine.answer(family, question, other), False)
            self.assertEqual(other_log(family, observer, question, log), other)
        sizes = [size for size in range(len(log) + 1) if reference.is_known(family, names, question, log[:size])]
        self.assertEqual(first_known(family, observer, question, log), sizes[0] if sizes else None)
        return right

    def test_examples(self):
        self.assertEqual(known_sets(FAMILY, 0, LATEST, ('c', 'a', 'b')), [(0,), (0, 1), (0, 1)])
        never = opposite_of(FAMILY, LATEST)
        self.assertIs(self.check(FAMILY, 0, never, ('c', 'b')), True)
        self.assertIs(self.check(FAMILY, 0, never, ('c', 'b', 'a')), False)
        self.assertEqual(first_known(FAMILY, 0, never, ('a', 'b')), 0)
        self.assertIs(self.check(FAMILY, 1, LATEST, ('a', 'a')), False)

    def test_first_known(self):
        happened = ((False, True), ((0, 0, 1), (1, 1, 1)))
        log = ('a', 'b', 'a', 'c', 'b', 'c', 'a')
        self.assertEqual(first_known(FAMILY, 1, happened, log), 4)
        self.assertIsNone(first_known(FAMILY, 0, happened, log))
        self.assertIsNone(first_known(FAMILY, 1, happened, log[:3]))
        self.assertEqual(first_known(FAMILY, 1, happened, log[:4]), 4)
        self.assertEqual(first_known(FAMILY, 1, YES, log), 0)
        self.assertIsNone(first_known(FAMILY, 1, NO, log))
        # It knows it behind the fourth event, and then no more.
        fourth = counter(FAMILY, 'c', 3)
        self.assertEqual(first_known(FAMILY, 1, fourth, ('c',) * 5), 0)
        self.assertEqual(first_known(FAMILY, 1, opposite_of(FAMILY, fourth), ('a', 'c', 'c', 'c', 'c')), 2)

    def test_logs_of_names_that_are_not_seen(self):
        for question in (LATEST, ODD, FIRST_A, opposite_of(FAMILY, LATEST)):
            for log in [(), ('c',), ('c',) * 7]:
                self.check(FAMILY, 0, question, log)
                self.assertEqual(known_sets(FAMILY, 0, question, log), known_sets(FAMILY, 0, question, ()))
                self.assertEqual(len(known_sets(FAMILY, 0, question, log)), 1)
                self.assertEqual(len(known_sets(FAMILY, 1, question, log)), len(log) + 1)

    def test_states_of_the_question_itself(self):
        # The known sets have the states of the question, not those of its least question.
        twin = ((False, False, True, True), ((2, 1, 1), (3, 0, 0), (2, 3, 0), (3, 2, 1)))
        self.assertEqual(machine.least(FAMILY, twin), LATEST)
        self.assertEqual(known_sets(FAMILY, 1, twin, ()), [(0, 2)])
        self.assertEqual(known_sets(FAMILY, 1, twin, ('b',)), [(0, 2), (1, 3)])
        self.check(FAMILY, 1, twin, ('b', 'c', 'b'))

    def test_many_questions(self):
        found = []
        for family, question, log in questions_and_logs(385, 200):
            for observer in range(len(family)):
                found.append(self.check(family, observer, question, log))
                if reference.number_of_sets(family, family[observer], question) <= 60:
                    known = knows(family, observer, question)
                    self.assertIs(machine.answer(family, known, log), found[-1])
        self.assertGreater(min(found.count(True), found.count(False)), 80)

    def test_doubled_questions(self):
        rng = random.Random(386)
        for family, question, log in questions_and_logs(387, 60, 4):
            twin = doubled(rng, question)
            observer = rng.randrange(len(family))
            self.assertIs(self.check(family, observer, twin, log), self.check(family, observer, question, log))

    def test_by_all_logs(self):
        found = []
        for family, question, log in questions_and_logs(388, 80, 2, 2):
            if len(names_of(family)) <= 3:
                for observer in range(len(family)):
                    right = reference.is_known_by_logs(family, family[observer], question, log, 5)
                    self.assertIs(is_known(family, observer, question, log), right)
                    found.append(right)
        self.assertGreater(min(found.count(True), found.count(False)), 20)

    def test_long_logs(self):
        rng = random.Random(389)
        for family, question, _ in some_questions(390, 20):
            log = tuple(rng.choice(names_of(family)) for _ in range(130))
            for observer in range(len(family)):
                self.check(family, observer, question, log)


class EveryoneTest(unittest.TestCase):

    def check(self, family, group, question):
        right = reference.everyone(family, group, question)
        if right is None:
            check_raises(self, TooMany, everyone, family, group, question)
        else:
            self.assertEqual(everyone(family, group, question), right)
        names = reference.common_names(family, group)
        shared = reference.knows(family, names, question)
        if shared is None:
            check_raises(self, TooMany, common, family, group, question)
        else:
            self.assertEqual(common(family, group, question), shared)
        return right

    def test_examples(self):
        odd = ((False, True), ((0, 1, 0), (1, 0, 1)))
        self.assertEqual(common(FAMILY, (0, 1), odd), odd)
        self.assertEqual(everyone(FAMILY, (0, 1), odd), odd)
        self.assertEqual(everyone(FAMILY, (0, 1), LATEST), NO)
        for group in [(0,), (1,), (0, 1)]:
            for question in (LATEST, ODD, FIRST_A, YES, NO, opposite_of(FAMILY, LATEST)):
                self.check(FAMILY, group, question)

    def test_groups_of_one(self):
        for family, question, _ in some_questions(391, 60):
            for observer in range(len(family)):
                if reference.number_of_sets(family, family[observer], question) <= 60:
                    known = knows(family, observer, question)
                    self.assertEqual(everyone(family, (observer,), question), known)
                    self.assertEqual(common(family, (observer,), question), known)

    def test_many_questions(self):
        rng = random.Random(392)
        for family, question, _ in some_questions(393, 120, 5):
            for group in rng.sample(groups(family)[1:], min(4, 2 ** len(family) - 1)):
                self.check(family, group, question)

    def test_too_many_pairs(self):
        # Whether so many names a or so many names b have happened: each observer knows it of its own name.
        for first, second, many in [(6, 10, 60), (7, 9, 63), (2, 31, 62), (2, 30, 60), (8, 8, 64)]:
            question = machine.made('either', TWO, (lasso(TWO, 'a', first - 1, 1), lasso(TWO, 'b', second - 1, 1)))
            parts = [reference.knows(TWO, names, question) for names in TWO]
            self.assertEqual(machine.number_of_places('both', TWO, parts), many)
            self.assertIs(self.check(TWO, (0, 1), question) is None, many > 60)
            self.assertIs(self.check(TWO * 2, (1, 2), question) is None, many > 60)

    def test_order_of_the_group(self):
        # The first two questions make too many pairs, the first and the third one make few.
        question = machine.made('either', TWO, (lasso(TWO, 'a', 7, 1), lasso(TWO, 'b', 7, 1)))
        family = (('a',), ('b',), ('a',))
        check_raises(self, TooMany, everyone, family, (0, 1, 2), question)
        check_raises(self, TooMany, everyone, family, (0, 1), question)
        everyone(family, (0, 2), question)

    def test_too_many_sets(self):
        for tail, cycle, source, target, many in [(0, 9, 3, 4, 60), (0, 9, 4, 5, 61), (8, 10, 17, 5, 60)]:
            question = jumping(tail, cycle, source, target)
            for family, group in [(FAMILY, (0,)), ((('a', 'b'), ('a', 'b', 'c'), ('a', 'c')), (0, 1))]:
                self.assertEqual(
                    reference.number_of_sets(family, reference.common_names(family, group), question), many)
                self.check(family, group, question)
        check_raises(self, TooMany, common, FAMILY, (0,), jumping(0, 9, 4, 5))
        check_raises(self, TooMany, everyone, FAMILY, (0, 1), jumping(0, 9, 4, 5))
        check_raises(self, TooMany, everyone, FAMILY[::-1], (0, 1), jumping(0, 9, 4, 5))

    def test_as_many_times_as_the_depth(self):
        rng = random.Random(394)
        checked = 0
        for family, question, _ in some_questions(395, 100, 3):
            for group in rng.sample(groups(family)[1:], min(3, 2 ** len(family) - 1)):
                made = least_question(family, question)
                for _ in range(depth_of(family, group)):
                    made = made and reference.everyone(family, group, made)
                if made:
                    checked += 1
                    self.assertEqual(common(family, group, question), made)
                    self.assertEqual(everyone(family, group, made), made)
        self.assertGreater(checked, 100)

    def test_what_common_knowledge_is(self):
        rng = random.Random(396)
        for family, question, _ in some_questions(397, 80, 4):
            group = rng.choice(groups(family)[1:])
            shared = common(family, group, question)
            self.assertIs(implies(family, shared, question), True)
            for observer in group:
                self.assertIs(implies(family, shared, knows(family, observer, question)), True)
                self.assertEqual(knows(family, observer, shared), shared)
            for other in group:
                smaller = tuple(observer for observer in group if observer != other)
                if smaller:
                    self.assertIs(implies(family, shared, common(family, smaller, question)), True)

    def test_by_all_logs(self):
        found = []
        for family, question, log in questions_and_logs(398, 60, 2, 1):
            if len(names_of(family)) > 3 or len(family) > 3:
                continue
            for group in groups(family)[1:]:
                right = reference.is_told_by_logs(family, group, question, log, reference.depth(family, group), 5)
                said = machine.answer(family, common(family, group, question), log)
                # All logs up to a length are not all logs, but where one is answered no the question is not common.
                self.assertLessEqual(said, right)
                told = reference.is_told_by_logs(family, group, question, log, 1, 5)
                self.assertLessEqual(machine.answer(family, everyone(family, group, question), log), told)
                found.append((right, said))
        self.assertGreater(found.count((True, True)) + found.count((False, False)), len(found) - 4)


class CommonTest(unittest.TestCase):

    def check(self, family, group, question, log):
        names = reference.common_names(family, group)
        self.assertEqual(common_sets(family, group, question, log), reference.known_sets(family, names, question, log))
        right = reference.is_known(family, names, question, log)
        logs = leading_logs(family, group, question, log)
        self.assertIs(logs is None, right, (family, group, question, log))
        if logs is not None:
            self.assertIs(type(logs), list)
            self.assertEqual([type(row) for row in logs], [tuple] * len(logs))
            self.assertEqual(logs[0], log)
            self.assertLessEqual(len(logs), reference.depth(family, group) + 1)
            self.assertTrue(all(set(row) <= set(names_of(family)) for row in logs))
            for one, other in zip(logs, logs[1:]):
                self.assertTrue([1 for observer in group if look_same(family, (observer,), one, other)])
            self.assertIs(machine.answer(family, question, logs[-1]), False)
            self.assertEqual(leading_logs(family, group, question, log), logs)
        return right

    def test_examples(self):
        odd = ((False, True), ((0, 1, 0), (1, 0, 1)))
        self.assertIs(self.check(FAMILY, (0, 1), odd, ('b', 'c')), True)
        self.assertIs(self.check(FAMILY, (0, 1), odd, ('b', 'c', 'b')), False)
        self.assertIs(self.check(FAMILY, (0, 1), LATEST, ('a',)), False)
        never = opposite_of(FAMILY, ((False, True), ((1, 0, 0), (1, 1, 1))))
        # The first observer knows that no name a has happened, the second one does not.
        self.assertIs(self.check(FAMILY, (0,), never, ('b', 'c')), True)
        self.assertIs(self.check(FAMILY, (0, 1), never, ('b', 'c')), False)

    def test_depth_of_nought(self):
        family = (('a', 'b'), ('a', 'b'))
        for question in [((False, True), ((1, 0), (0, 0))), ((True, False), ((1, 0), (0, 0)))]:
            for log in machine.logs_up_to(family, 3):
                self.assertIs(self.check(family, (0, 1), question, log), machine.answer(family, question, log))
                logs = leading_logs(family, (0, 1), question, log)
                self.assertIn(logs, (None, [log]))

    def test_many_questions(self):
        rng = random.Random(399)
        found = []
        for family, question, log in questions_and_logs(400, 200):
            for group in rng.sample(groups(family)[1:], min(4, 2 ** len(family) - 1)):
                found.append(self.check(family, group, question, log))
        self.assertGreater(min(found.count(True), found.count(False)), 60)

    def test_many_families(self):
        rng = random.Random(401)
        depths = []
        for family in many_families(402, 60):
            names = names_of(family)
            for _ in range(3):
                group = rng.choice(groups(family)[1:]) if rng.random() < 0.5 else tuple(range(len(family)))
                log = tuple(rng.choice(names) for _ in range(rng.randint(0, 12)))
                question = random_question(rng, family, 4)
                if not self.check(family, group, question, log):
                    depths.append(reference.depth(family, group))
        self.assertEqual(sorted(set(depths)), [0, 1, 2, 3, 4, 5, 6])


class DepthTest(unittest.TestCase):

    def check(self, family, group):
        right = reference.depth(family, group)
        self.assertEqual(depth_of(family, group), right)
        found = depth_group(family, group)
        self.assertIs(type(found), tuple)
        self.assertEqual(len(found), right)
        self.assertEqual(list(found), [observer for observer in group if observer in found])
        names = reference.common_names(family, group)
        self.assertEqual(reference.common_names(family, found), names)
        question = deep_question(family, group)
        self.assertIs(question is None, right == 0)
        if question is not None:
            self.assertIs(is_question(family, question), True)
            self.assertEqual(deep_question(family, group), question)
            self.check_deep(family, group, question, right)
        return right

    def check_deep(self, family, group, question, depth):
        """Made one time less than the depth "everyone" is not "common".

        A row of so few logs keeps the names that are common to so few observers. So behind a log everyone knows, so
        many times, what an observer of these common names would know, whichever observers they are.
        """
        names = reference.common_names(family, group)
        parts = {reference.common_names(family, part) for part in combinations(group, depth - 1)}
        logs = [log for log in machine.logs_up_to(family, 1) if all(
            reference.is_known(family, part, question, log) for part in parts)]
        self.assertTrue([log for log in logs if not reference.is_known(family, names, question, log)])
        made = least_question(family, question)
        for _ in range(depth - 1):
            made = made and reference.everyone(family, group, made)
        if made:
            self.assertIs(are_alike(family, made, common(family, group, question)), False)
        else:
            self.assertGreater(depth, 3)

    def test_examples(self):
        self.assertEqual(
            [depth_of(FAMILY, (0, 1)), depth_of((('a', 'b'), ('b',)), (0, 1)), depth_of(FAMILY, (1,))], [2, 1, 1])
        self.assertEqual(depth_group((('a', 'b'), ('b',)), (0, 1)), (1,))
        self.assertEqual(depth_group(FAMILY, (1,)), (1,))
        self.assertEqual(self.check(FAMILY, (0, 1)), 2)

    def test_each_depth(self):
        for size in range(2, 7):
            family = all_but_one(size)
            for many in range(1, size + 1):
                self.assertEqual(self.check(family, tuple(range(size))[-many:]), many)
        self.assertEqual(self.check((('a', 'b'),) * 3, (0, 1, 2)), 0)
        self.assertEqual(self.check((('a', 'b'), ('a',), ('a', 'b')), (0, 2)), 0)
        self.assertEqual(depth_group((('a', 'b'),) * 3, (1, 2)), ())
        self.assertEqual(self.check((('a', 'b', 'c'), ('a', 'b'), ('a',)), (0, 1, 2)), 1)
        self.assertEqual(self.check(TWO, (0, 1)), 2)

    def test_many_families(self):
        rng = random.Random(403)
        found = set()
        for family in many_families(404, 120):
            for group in [tuple(range(len(family)))] + rng.sample(groups(family)[1:], min(2, len(family))):
                found.add(self.check(family, group))
        self.assertEqual(found, {0, 1, 2, 3, 4, 5, 6})

    def test_the_program_finds_the_deep_questions(self):
        # Each of six names is seen by all but two of four observers: any two of them have a name in common.
        pairs = dict(zip('abcdef', combinations(range(4), 2)))
        four = tuple(tuple(name for name in 'abcdef' if at not in pairs[name]) for at in range(4))
        self.assertEqual(depth_of(four, (0, 1, 2, 3)), 3)
        # Four observers that each see all of eight names but two of their own.
        eight = tuple(tuple(name for name in 'abcdefgh' if name not in own) for own in ('ab', 'cd', 'ef', 'gh'))
        for family in [all_but_one(size) for size in (2, 3, 4, 5)] + [FAMILY, TRIANGLE * 2, four, four[::-1], eight]:
            group = tuple(range(len(family)))
            question = deep_question(family, group)
            shared = common(family, group, question)
            made = question
            for _ in range(depth_of(family, group)):
                self.assertIs(are_alike(family, made, shared), False)
                made = everyone(family, group, made)
            self.assertIs(are_alike(family, made, shared), True)


class ArgumentsTest(unittest.TestCase):

    def test_right_ones(self):
        for call, kinds in CALLS:
            check_right_ones(self, call, kinds)

    def test_wrong_ones(self):
        for call, kinds in CALLS:
            check_wrong_ones(self, call, kinds)

    def test_too_many_is_raised_last(self):
        question = jumping(0, 9, 4, 5)
        for value in BAD_OBSERVERS:
            found = check_raises(self, InvalidObserver, knows, FAMILY, value, question)
            self.assertIs(found.number, value)
        for call in (everyone, common):
            for value in [(), (1, 0), [0], None, (2,), (True,)]:
                check_raises(self, InvalidGroup, call, FAMILY, value, question)
        self.assertEqual(len(known_sets(FAMILY, 0, question, ('a',) * 100)), 101)

    def test_what_does_not_raise_too_many(self):
        question = jumping(0, 9, 4, 5)
        check_raises(self, TooMany, knows, FAMILY, 0, question)
        check_raises(self, TooMany, common, FAMILY, (0,), question)
        log = ('a', 'c', 'b') * 20
        self.assertIs(is_known(FAMILY, 0, question, log), reference.is_known(FAMILY, FAMILY[0], question, log))
        self.assertEqual(known_sets(FAMILY, 0, question, log), reference.known_sets(FAMILY, FAMILY[0], question, log))
        self.assertEqual(common_sets(FAMILY, (0,), question, log), known_sets(FAMILY, 0, question, log))
        self.assertIs(other_log(FAMILY, 0, question, log) is None, is_known(FAMILY, 0, question, log))
        self.assertEqual(first_known(FAMILY, 0, question, log), 0)
        self.assertIs(leading_logs(FAMILY, (0,), question, log) is None, is_known(FAMILY, 0, question, log))

    def test_new_lists(self):
        check_new_lists(self, known_sets, FAMILY, 0, LATEST, ('a', 'b', 'c'))
        check_new_lists(self, common_sets, FAMILY, (0, 1), LATEST, ('a', 'b', 'c'))
        check_new_lists(self, leading_logs, FAMILY, (0, 1), LATEST, ('a', 'b', 'c'))

    def test_same_result_in_another_run(self):
        program = (
            'from partviews.knowing import *\n'
            'from tests.question_samples import some_questions\n'
            'for family, question, _ in some_questions(405, 30, 4):\n'
            '    log = family[0] * 2\n'
            '    print(knows(family, 0, question), known_sets(family, 0, question, log))\n'
            '    print(other_log(family, 0, question, log), leading_logs(family, (0,), question, log))\n'
            '    print(depth_group(family, (0,)), deep_question(family, (0,)), common(family, (0,), question))\n'
        )
        found = other_runs(program)
        self.assertIn('True', found[0])
        self.assertEqual(found, found[:1] * 3)


if __name__ == '__main__':
    unittest.main()
