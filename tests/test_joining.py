"""Points 3 and 8 and partviews/joining.py."""

import random
import unittest

from partviews.errors import InvalidCase, TooLong, TooMany
from partviews.joining import all_logs, count_logs, is_possible, least_log
from tests import reference
from tests.samples import (
    GOOD_CASE, NO_CASES, RING_CASE, check_new_lists, check_raises, large_cases, miscounted, possible_case,
    random_cases, random_family, same_again, small_cases, twisted,
)

# 20 * 10 logs of 12 events: two views that share the event x.
EXACTLY_200 = (
    (('b', 'c', 'x'), ('c', 'c', 'b', 'x', 'c', 'b', 'b')),
    (('d', 'x'), ('d', 'd', 'd', 'x', 'd', 'd')),
)
EXACTLY_201 = (
    (('d',), ('d',)), (('a', 'z'), ('a', 'a', 'z', 'a', 'z', 'z', 'a', 'a')), (('b', 'd', 'x'), ('d', 'x', 'b', 'b')),
    (('b', 'z'), ('z', 'z', 'z', 'b', 'b')),
)


def apart(*counts):
    """A case of observers that share no name, with so many events in their views."""
    return tuple(((name,), (name,) * many) for name, many in zip('abcdef', counts))


class LeastLogTest(unittest.TestCase):

    def check(self, case):
        found = least_log(case)
        self.assertEqual(found, reference.least(case), case)
        self.assertIs(is_possible(case), found is not None)
        if found is not None:
            self.assertIs(type(found), tuple)
            for names, view in case:
                self.assertEqual(reference.kept(found, names), view)

    def test_examples(self):
        self.assertEqual(least_log(GOOD_CASE), ('a', 'c', 'b', 'a'))
        self.assertIs(is_possible(GOOD_CASE), True)
        self.assertIsNone(least_log(RING_CASE))
        self.assertIs(is_possible(RING_CASE), False)

    def test_empty_views(self):
        self.assertEqual(least_log(((('a',), ()),)), ())
        self.assertIs(is_possible(((('a',), ()),)), True)
        self.assertEqual(least_log(((('a', 'b'), ()), (('c',), ()), (('b',), ()))), ())
        self.assertEqual(least_log(((('a', 'b'), ()), (('c',), ('c', 'c')))), ('c', 'c'))

    def test_one_observer(self):
        self.assertEqual(least_log(((('a', 'b'), ('b', 'a', 'b')),)), ('b', 'a', 'b'))

    def test_count_conflicts(self):
        self.assertIsNone(least_log(((('a',), ('a',)), (('a', 'b'), ('b',)))))
        self.assertIsNone(least_log(((('a',), ('a',)), (('a',), ('a', 'a')))))
        self.assertIsNone(least_log(((('a',), ('a', 'a')), (('a',), ('a',)))))
        self.assertIs(is_possible(((('a',), ('a',)), (('a',), ()))), False)

    def test_rings(self):
        self.assertIsNone(least_log(((('a', 'b'), ('a', 'b')), (('a', 'b'), ('b', 'a')))))
        case = ((('a', 'b', 'c'), ('c', 'a', 'b')), (('a', 'b', 'd'), ('b', 'a', 'd')))
        self.assertIsNone(least_log(case))
        self.assertIs(is_possible(case), False)

    def test_least_of_all(self):
        self.assertEqual(least_log(((('b',), ('b',)), (('a',), ('a',)), (('c',), ('c',)))), ('a', 'b', 'c'))
        self.assertEqual(least_log(((('b', 'c'), ('c', 'b')), (('a', 'c'), ('c', 'a')))), ('c', 'a', 'b'))
        self.assertEqual(least_log(((('b', 'd'), ('d', 'b')), (('a', 'c'), ('c', 'a')))), ('c', 'a', 'd', 'b'))
        self.assertEqual(least_log(((('b',), ('b',)), (('ab',), ('ab',)), (('a',), ('a',)))), ('a', 'ab', 'b'))

    def test_small_cases(self):
        for case in small_cases():
            self.check(case)
            right = reference.logs(case)
            self.assertEqual(least_log(case), right[0] if right else None)

    def test_large_cases(self):
        for case in large_cases() + random_cases(41, 60, 100):
            self.check(case)

    def test_large_possible_cases(self):
        rng = random.Random(42)
        longest = 0
        for at in range(80):
            family = random_family(rng, most_in_set=1 + at % 6)
            case = possible_case(rng, family, 240)
            self.check(case)
            self.assertIs(is_possible(case), True)
            longest = max(longest, len(least_log(case)))
            self.check(twisted(rng, case, 2))
            self.check(miscounted(rng, case))
        self.assertGreater(longest, 60)

    def test_sixty_and_120_events(self):
        self.assertEqual(least_log(apart(10, 10, 10, 10, 10, 10)), tuple('a' * 10 + 'b' * 10 + 'c' * 10 + 'd' * 10
                                                                         + 'e' * 10 + 'f' * 10))
        found = least_log(apart(20, 20, 20, 20, 20, 20)[::-1])
        self.assertEqual(found, tuple(name for name in 'abcdef' for _ in range(20)))
        case = tuple((('a', name), ('a', name) * 10) for name in 'bcdefg')
        self.assertEqual(least_log(case), tuple('abcdefg') * 10)
        self.assertIs(is_possible(case), True)

    def test_same_result_again(self):
        for case in small_cases()[:60]:
            self.assertEqual(least_log(same_again(case)), least_log(case))

    def test_errors(self):
        for case in NO_CASES:
            check_raises(self, InvalidCase, least_log, case)
            check_raises(self, InvalidCase, is_possible, case)


class AllLogsTest(unittest.TestCase):

    def check(self, case):
        right = reference.logs(case)
        self.assertEqual(all_logs(case), right)
        self.assertEqual(count_logs(case), len(right))
        self.assertIs(type(count_logs(case)), int)

    def test_examples(self):
        self.assertEqual(all_logs(GOOD_CASE), [('a', 'c', 'b', 'a'), ('c', 'a', 'b', 'a')])
        self.assertEqual(count_logs(GOOD_CASE), 2)

    def test_one_log_and_none(self):
        self.assertEqual(all_logs(((('a',), ()),)), [()])
        self.assertEqual(count_logs(((('a',), ()),)), 1)
        self.assertEqual(all_logs(((('a',), ('a',) * 12),)), [('a',) * 12])
        self.assertEqual(count_logs(((('a',), ('a',) * 12),)), 1)
        self.assertEqual(all_logs(RING_CASE), [])
        self.assertEqual(count_logs(RING_CASE), 0)
        conflict = ((('a',), ('a',)), (('a', 'b'), ('b',)))
        self.assertEqual(all_logs(conflict), [])
        self.assertEqual(count_logs(conflict), 0)

    def test_events_with_one_name_are_not_exchanged(self):
        self.assertEqual(all_logs(((('a',), ('a', 'a')), (('b',), ('b',)))), [tuple('aab'), tuple('aba'), tuple('baa')])

    def test_small_cases(self):
        few = 0
        for case in small_cases():
            if reference.number_of_logs(case) <= 200 and len(reference.events(case)) <= 12:
                self.check(case)
                few += 1
        self.assertGreater(few, 150)

    def test_number_of_logs(self):
        rng = random.Random(43)
        many = 0
        for _ in range(250):
            case = possible_case(rng, random_family(rng, most_in_set=3), 12)
            number = reference.number_of_logs(case)
            self.assertEqual(count_logs(case), number)
            if number > 200:
                many += 1
                check_raises(self, TooMany, all_logs, case)
            else:
                self.assertEqual(all_logs(case), reference.logs(case))
        self.assertGreater(many, 10)

    def test_exactly_200_logs_of_12_events(self):
        self.assertEqual(len(reference.events(EXACTLY_200)), 12)
        self.assertEqual(len(reference.logs(EXACTLY_200)), 200)
        self.check(EXACTLY_200)
        self.check(EXACTLY_200[::-1])

    def test_201_logs(self):
        self.assertEqual(reference.number_of_logs(EXACTLY_201), 201)
        self.assertEqual(len(reference.events(EXACTLY_201)), 12)
        self.assertEqual(count_logs(EXACTLY_201), 201)
        check_raises(self, TooMany, all_logs, EXACTLY_201)
        self.assertEqual(count_logs(apart(4, 6)), 210)
        check_raises(self, TooMany, all_logs, apart(4, 6))

    def test_very_many_logs(self):
        self.assertEqual(count_logs(apart(2, 2, 2, 2, 2, 2)), 7484400)
        check_raises(self, TooMany, all_logs, apart(2, 2, 2, 2, 2, 2))
        self.assertEqual(count_logs(apart(6, 6)), 924)
        case = apart(2, 2, 2, 2) + ((('e', 'f'), ('e', 'f')), (('g', 'h'), ('h', 'g')))
        self.assertEqual(count_logs(case), reference.number_of_logs(case))
        check_raises(self, TooMany, all_logs, case)

    def test_many_beginnings_without_a_log(self):
        ring = ((('x', 'y'), ('x', 'y')), (('x', 'y'), ('y', 'x')))
        self.assertEqual(all_logs(apart(3, 3, 2, 2) + ring), [])
        self.assertEqual(count_logs(apart(3, 3, 2, 2) + ring), 0)
        conflict = ((('x',), ('x',)), (('x',), ()))
        self.assertEqual(all_logs(apart(3, 3, 3, 2) + conflict), [])
        self.assertEqual(count_logs(apart(3, 3, 3, 2) + conflict), 0)

    def test_too_long(self):
        ring = ((('x', 'y'), ('x', 'y')), (('x', 'y'), ('y', 'x')))
        for case in [
            ((('a',), ('a',) * 13),), apart(7, 6), apart(20), apart(3, 3, 3, 2) + ring, apart(12) + ring[:1],
            ((('a',), ('a',) * 13), (('a',), ('a',) * 13)), apart(20, 20, 20, 20, 20, 20), apart(1, 2, 3, 4, 3),
        ]:
            check_raises(self, TooLong, count_logs, case)
            check_raises(self, TooLong, all_logs, case)

    def test_too_long_counts_events_that_one_has_seen(self):
        conflict = ((('a',), ('a',) * 13), (('a',), ()))
        check_raises(self, TooLong, count_logs, conflict)
        check_raises(self, TooLong, all_logs, conflict)
        conflict = ((('a',), ('a',) * 2), (('a', 'b'), ('a',) * 6 + ('b',) * 6))
        self.assertEqual(count_logs(conflict), 0)
        self.assertEqual(all_logs(conflict), [])
        check_raises(self, TooLong, count_logs, conflict + ((('c',), ('c',)),))

    def test_twelve_events_seen_by_many(self):
        view = tuple('abcdef') * 2
        case = ((tuple('abcdef'), view),) * 6
        self.assertEqual(count_logs(case), 1)
        self.assertEqual(all_logs(case), [view])

    def test_new_lists(self):
        check_new_lists(self, all_logs, GOOD_CASE)
        check_new_lists(self, all_logs, RING_CASE)
        check_new_lists(self, all_logs, ((('a',), ()),))

    def test_errors(self):
        for case in NO_CASES:
            check_raises(self, InvalidCase, count_logs, case)
            check_raises(self, InvalidCase, all_logs, case)
        check_raises(self, InvalidCase, count_logs, list(apart(7, 6)))
        check_raises(self, InvalidCase, all_logs, list(apart(7, 6)))


if __name__ == '__main__':
    unittest.main()
