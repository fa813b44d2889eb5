"""Points 8 and 19 and partviews/questions.py."""

import copy
import random
import unittest
from itertools import combinations

from partviews.certain import is_settled
from partviews.errors import Impossible, InvalidCase, InvalidNames, TooLong, TooMany
from partviews.joining import all_logs, count_logs
from partviews.questions import best_pair, possible_views
from tests import growing_reference as growing
from tests import reference
from tests.samples import (
    GOOD_CASE, NAMES, NO_CASES, RING_CASE, check_new_lists, check_raises, possible_case, random_cases,
    random_family, same_again, seen_from, small_cases,
)
from tests.test_logs import NO_NAME_SETS

COUNT_CASE = ((('a',), ('a',)), (('a', 'b'), ('b',)))
# Twelve events, and thirteen: of one name.
TWELVE = ((('a',), ('a',) * 12),)
THIRTEEN = ((('a',), ('a',) * 13),)
# As many logs as the number says, of at most twelve events.
CASES_WITH = {
    199: ((('a', 'b'), ('b', 'a', 'a', 'b')), (('b', 'c'), ('b', 'c', 'b')), (('c', 'd'), tuple('dddddcd'))),
    200: ((('a', 'b'), tuple('aabbaaaaa')), (('b', 'c'), ('b', 'b', 'c')), (('c', 'd'), ('d', 'd', 'c'))),
    201: ((('a', 'b'), ('a', 'b', 'a', 'a')), (('b', 'c'), ('b', 'c')), (('c', 'd'), tuple('ddcddddd'))),
}


def apart(*sizes):
    """A case of observers that share no name, each with so many events of one name."""
    return tuple(((name,), (name,) * size) for name, size in zip('abcdef', sizes))


def good_cases():
    """Possible cases with at most twelve events and two hundred logs."""
    rng = random.Random(221)
    found = []
    while len(found) < 180:
        if len(found) % 3:
            # Few names in each set: many logs fit.
            names = rng.sample(NAMES, rng.randint(3, 5))
            family = tuple(tuple(sorted(rng.sample(names, rng.randint(1, 2)))) for _ in range(rng.randint(2, 4)))
            case = possible_case(rng, family, rng.randint(6, 14))
        else:
            family = random_family(rng, most_names=2 + len(found) % 6, most_in_set=3)
            case = possible_case(rng, family, 2 + len(found) % 8)
        least = 2 if len(found) % 3 else 1
        if len(reference.events(case)) <= 12 and least <= reference.number_of_logs(case) <= 200:
            found.append(case)
    return found


def name_sets_of(rng, case):
    names = growing.names_of(growing.family_of(case))
    sizes = [1, min(2, len(names)), rng.randint(1, min(6, len(names)))]
    return [tuple(sorted(rng.sample(names, size))) for size in sizes]


class PossibleViewsTest(unittest.TestCase):

    def check(self, case, names):
        found = possible_views(case, names)
        self.assertEqual(found, growing.possible_views(case, names), (case, names))
        self.assertIs(type(found), list)
        self.assertEqual([type(entry) for entry in found], [tuple] * len(found))
        self.assertEqual([type(view) for view, _ in found], [tuple] * len(found))
        self.assertEqual([type(many) for _, many in found], [int] * len(found))
        return found

    def test_examples(self):
        self.assertEqual(possible_views(GOOD_CASE, ('a', 'c')), [(('a', 'c', 'a'), 1), (('c', 'a', 'a'), 1)])
        self.assertEqual(possible_views(GOOD_CASE, ('a', 'b')), [(('a', 'b', 'a'), 2)])
        self.assertEqual(possible_views(GOOD_CASE, ('c',)), [(('c',), 2)])
        self.assertEqual(
            possible_views(GOOD_CASE, ('a', 'b', 'c')), [(('a', 'c', 'b', 'a'), 1), (('c', 'a', 'b', 'a'), 1)])

    def test_several_logs_left(self):
        case = apart(2, 1, 1)
        self.assertEqual(possible_views(case, ('a', 'b')), [
            (('a', 'a', 'b'), 4), (('a', 'b', 'a'), 4), (('b', 'a', 'a'), 4),
        ])
        self.assertEqual(possible_views(case, ('b', 'c')), [(('b', 'c'), 6), (('c', 'b'), 6)])
        self.assertEqual(possible_views(case, ('a',)), [(('a', 'a'), 12)])
        case = ((('a', 'b'), ('b', 'a')), (('c', 'd'), ('d', 'c')))
        self.assertEqual(possible_views(case, ('a', 'c')), [(('a', 'c'), 3), (('c', 'a'), 3)])
        self.assertEqual(possible_views(case, ('a', 'd')), [(('a', 'd'), 1), (('d', 'a'), 5)])

    def test_nothing_seen(self):
        case = ((('a', 'b'), ()), (('c',), ()))
        self.assertEqual(possible_views(case, ('a', 'c')), [((), 1)])
        case = ((('a', 'b'), ()), (('c',), ('c',)))
        self.assertEqual(possible_views(case, ('a', 'b')), [((), 1)])

    def test_many_cases(self):
        rng = random.Random(222)
        several = 0
        for case in good_cases():
            for names in name_sets_of(rng, case):
                found = self.check(case, names)
                self.assertEqual(found, sorted(found))
                self.assertEqual(sum(many for _, many in found), count_logs(case))
                self.assertEqual(sum(many for _, many in found), len(all_logs(case)))
                self.assertEqual(possible_views(same_again(case), same_again(names)), found)
                several += len(found) > 1 and max(many for _, many in found) > 1
        self.assertGreater(several, 40)

    def test_own_name_set(self):
        for case in good_cases()[::3]:
            for names, view in case:
                self.assertEqual(possible_views(case, names), [(view, reference.number_of_logs(case))])

    def test_exactly_twelve_events(self):
        self.assertEqual(possible_views(TWELVE, ('a',)), [(('a',) * 12, 1)])
        case = ((('a', 'b'), ('a', 'b') * 6), (('b',), ('b',) * 6))
        self.assertEqual(possible_views(case, ('b',)), [(('b',) * 6, 1)])
        case = apart(10, 1, 1)
        self.assertEqual(reference.number_of_logs(case), 132)
        self.check(case, ('b', 'c'))
        self.check(case, ('a', 'c'))

    def test_exactly_two_hundred_logs(self):
        for number in (199, 200):
            case = CASES_WITH[number]
            self.assertEqual(reference.number_of_logs(case), number)
            for names in [('a',), ('a', 'b'), ('a', 'd'), ('b', 'c', 'd')]:
                self.assertEqual(sum(many for _, many in self.check(case, names)), number)
            self.assertEqual(best_pair(case), growing.best_pair(case))

    def test_new_lists(self):
        check_new_lists(self, possible_views, GOOD_CASE, ('a', 'c'))
        check_new_lists(self, possible_views, apart(2, 1, 1), ('b', 'c'))
        check_new_lists(self, possible_views, TWELVE, ('a',))

    def test_arguments_are_not_changed(self):
        for case in good_cases()[::8]:
            before = copy.deepcopy(case)
            possible_views(case, case[0][0])
            best_pair(case)
            self.assertEqual(repr(case), repr(before))


class PossibleErrorsTest(unittest.TestCase):

    def test_cases(self):
        for case in NO_CASES:
            check_raises(self, InvalidCase, possible_views, case, ('a',))
            check_raises(self, InvalidCase, possible_views, case, None)
            check_raises(self, InvalidCase, best_pair, case)

    def test_names(self):
        for value in NO_NAME_SETS + [list('ac'), 'ac', 'a', ('c', 'a'), ('a', 'c', 'c')]:
            check_raises(self, InvalidNames, possible_views, GOOD_CASE, value)
            check_raises(self, InvalidNames, possible_views, RING_CASE, value)
            check_raises(self, InvalidNames, possible_views, THIRTEEN, value)

    def test_names_that_no_observer_sees(self):
        for names in [('d',), ('a', 'd'), ('ab',), ('a', 'b', 'c', 'd'), ('x', 'y', 'z'), ('a', 'aa')]:
            check_raises(self, InvalidNames, possible_views, GOOD_CASE, names)
            check_raises(self, InvalidNames, possible_views, RING_CASE, names)
        # A name that is seen by an observer of the case, though not yet seen at all, is right.
        self.assertEqual(possible_views(((('a', 'b'), ('a',)),), ('b',)), [((), 1)])
        check_raises(self, InvalidNames, possible_views, ((('a', 'b'), ('a',)),), ('c',))

    def test_impossible(self):
        check_raises(self, Impossible, possible_views, RING_CASE, ('a', 'b'))
        check_raises(self, Impossible, possible_views, COUNT_CASE, ('a', 'b'))
        check_raises(self, Impossible, best_pair, RING_CASE)
        check_raises(self, Impossible, best_pair, COUNT_CASE)
        many = 0
        for case in small_cases():
            if reference.least(case) is None:
                many += 1
                check_raises(self, Impossible, possible_views, case, case[0][0])
                check_raises(self, Impossible, best_pair, case)
        self.assertGreater(many, 100)

    def test_impossible_before_too_long(self):
        case = RING_CASE + ((('x',), ('x',) * 12),)
        check_raises(self, Impossible, possible_views, case, ('a', 'b'))
        check_raises(self, Impossible, best_pair, case)
        case = COUNT_CASE + ((('x',), ('x',) * 12),)
        check_raises(self, Impossible, possible_views, case, ('a', 'b'))
        check_raises(self, Impossible, best_pair, case)
        check_raises(self, InvalidNames, possible_views, case, ('a', 'c'))

    def test_too_long(self):
        self.assertIsNone(best_pair(TWELVE))
        for case in [THIRTEEN, apart(12, 1), apart(7, 6), ((('a', 'b'), ('a', 'b') * 10),), apart(5, 4, 4)]:
            check_raises(self, TooLong, possible_views, case, ('a',))
            check_raises(self, TooLong, best_pair, case)
            check_raises(self, InvalidNames, possible_views, case, ('q',))

    def test_too_many(self):
        for case in [CASES_WITH[201], apart(6, 6), apart(4, 6), apart(2, 2, 2, 2, 2, 2), apart(1, 1, 1, 1, 1, 1)]:
            self.assertGreater(reference.number_of_logs(case), 200)
            check_raises(self, TooMany, possible_views, case, ('a', 'b'))
            check_raises(self, TooMany, possible_views, case, ('a',))
            check_raises(self, TooMany, best_pair, case)
            check_raises(self, InvalidNames, possible_views, case, ('a', 'q'))
        self.assertEqual(reference.number_of_logs(CASES_WITH[201]), 201)

    def test_too_long_before_too_many(self):
        for case in [apart(7, 6), apart(5, 4, 4), apart(3, 2, 2, 2, 2, 2)]:
            check_raises(self, TooLong, possible_views, case, ('a',))
            check_raises(self, TooLong, best_pair, case)


class BestPairTest(unittest.TestCase):

    def check(self, case):
        found = best_pair(case)
        self.assertEqual(found, growing.best_pair(case), case)
        self.assertIs(found is None, is_settled(case))
        return found

    def test_examples(self):
        self.assertEqual(best_pair(GOOD_CASE), ('a', 'c'))
        self.assertIsNone(best_pair(((('a', 'b'), ('a', 'b')),)))
        self.assertIsNone(best_pair(((('a', 'b'), ()), (('c',), ()))))

    def test_least_worst_number(self):
        case = ((('a', 'b'), ('b', 'a')), (('c', 'd'), ('d', 'c')))
        # a and c leave three logs of six; a and d up to five.
        self.assertEqual(self.check(case), ('a', 'c'))
        case = ((('a', 'b'), ('a', 'b')), (('c', 'd'), ('c', 'd')))
        self.assertEqual(self.check(case), ('a', 'c'))
        case = ((('a', 'b'), ('a', 'b')), (('c', 'd'), ('d', 'c')))
        self.assertEqual(self.check(case), ('a', 'd'))
        case = ((('a', 'b', 'x'), ('b', 'a', 'x')), (('c', 'x'), ('x', 'c')), (('d', 'x'), ('d', 'x')))
        self.assertEqual(self.check(case), ('a', 'd'))

    def test_least_pair_of_several(self):
        self.assertEqual(self.check(apart(1, 1, 1)), ('a', 'b'))
        self.assertEqual(self.check(apart(1, 1)), ('a', 'b'))
        self.assertEqual(self.check(apart(0, 1, 1)), ('b', 'c'))
        self.assertEqual(self.check(apart(0, 0, 1, 0, 1)), ('c', 'e'))

    def test_more_events_tell_more(self):
        self.assertEqual(self.check(apart(1, 3, 3)), ('b', 'c'))
        self.assertEqual(self.check(apart(3, 1, 3)), ('a', 'c'))

    def test_pairs_that_one_observer_sees(self):
        # Only settled cases have no better pair than one that an observer sees.
        for case in good_cases():
            pair = best_pair(case)
            if pair is not None:
                self.assertFalse([names for names, _ in case if set(pair) <= set(names)])

    def test_many_cases(self):
        settled = []
        for case in good_cases() + [seen_from((NAMES[:2], NAMES[2:4], NAMES[4:6]), NAMES[:6:2] + NAMES[1:6:2])]:
            pair = self.check(case)
            settled.append(pair is None)
            self.assertEqual(best_pair(same_again(case)), pair)
            if pair is not None:
                worst = max(many for _, many in possible_views(case, pair))
                self.assertLess(worst, count_logs(case))
                for other in combinations(growing.names_of(growing.family_of(case)), 2):
                    number = max(many for _, many in possible_views(case, other))
                    self.assertLessEqual((worst, pair), (number, other))
        self.assertGreater(min(settled.count(True), settled.count(False)), 30)

    def test_settled_cases_are_checked_first(self):
        check_raises(self, TooLong, best_pair, THIRTEEN)
        check_raises(self, TooLong, best_pair, ((('a', 'b'), ('a', 'b') * 7),))
        check_raises(self, InvalidCase, best_pair, ((('a',), ('a',) * 21),))
        self.assertIsNone(best_pair(TWELVE))

    def test_possible_cases_of_all_kinds(self):
        for case in random_cases(223, 90, 7):
            if reference.least(case) is not None and reference.number_of_logs(case) <= 200:
                self.check(case)


if __name__ == '__main__':
    unittest.main()
