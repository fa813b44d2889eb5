"""Point 6 and partviews/counts.py."""

import unittest

from partviews.counts import count_conflict, events
from partviews.errors import InvalidCase
from tests import reference
from tests.samples import GOOD_CASE, NO_CASES, RING_CASE, check_new_lists, check_raises, large_cases, small_cases


def counted(*counts):
    """A case of observers of one name with so many events in their views."""
    return tuple((('a',), ('a',) * many) for many in counts)


class ConflictTest(unittest.TestCase):

    def test_no_conflict(self):
        self.assertIsNone(count_conflict(GOOD_CASE))
        self.assertIsNone(count_conflict(RING_CASE))
        self.assertIsNone(count_conflict(((('a',), ()),)))
        self.assertIsNone(count_conflict(counted(3, 3, 3)))
        self.assertIsNone(count_conflict(((('a',), ('a',)), (('b',), ()))))
        self.assertIsNone(count_conflict(((('a', 'b'), ('a', 'b')), (('a', 'b'), ('b', 'a')))))

    def test_least_observers(self):
        self.assertEqual(count_conflict(((('a',), ('a',)), (('a', 'b'), ('b',)))), ('a', 0, 1))
        self.assertEqual(count_conflict(counted(1, 1, 2)), ('a', 0, 2))
        self.assertEqual(count_conflict(counted(2, 1, 1)), ('a', 0, 1))
        self.assertEqual(count_conflict(counted(1, 2, 1)), ('a', 0, 1))
        self.assertEqual(count_conflict(counted(0, 0, 0, 0, 0, 1)), ('a', 0, 5))
        self.assertEqual(count_conflict(counted(20, 20, 19, 18)), ('a', 0, 2))
        self.assertEqual(count_conflict(((('b',), ()),) + counted(1, 1, 0)), ('a', 1, 3))

    def test_least_name(self):
        case = ((('a', 'b', 'c'), ('c', 'b')), (('c',), ()), (('b',), ('b', 'b')), (('a', 'b'), ('b',)))
        self.assertEqual(count_conflict(case), ('b', 0, 2))
        case = ((('b', 'c'), ('b',)), (('b',), ()), (('ab',), ('ab',)), (('ab', 'c'), ()))
        self.assertEqual(count_conflict(case), ('ab', 2, 3))
        self.assertEqual(count_conflict(((('b',), ('b',)), (('aa', 'b'), ('aa',)), (('aa',), ()))), ('aa', 1, 2))

    def test_only_who_sees_the_name(self):
        case = ((('b',), ('b',)), (('a', 'b'), ('a', 'b')), (('c',), ()), (('a',), ('a', 'a')))
        self.assertEqual(count_conflict(case), ('a', 1, 3))

    def test_many_cases(self):
        for case in small_cases() + large_cases():
            right = reference.count_conflicts(case)
            found = count_conflict(case)
            self.assertEqual(found, right[0] if right else None)
            if right:
                self.assertEqual([type(part) for part in found], [str, int, int])
                self.assertIs(type(found), tuple)

    def test_errors(self):
        for case in NO_CASES:
            check_raises(self, InvalidCase, count_conflict, case)


class EventsTest(unittest.TestCase):

    def test_events(self):
        self.assertEqual(events(GOOD_CASE), [('a', 1), ('a', 2), ('b', 1), ('c', 1)])
        self.assertEqual(events(RING_CASE), [('a', 1), ('b', 1), ('c', 1)])
        self.assertEqual(events(((('a',), ()),)), [])
        self.assertEqual(events(((('b',), ('b',)), (('a',), ('a',)))), [('a', 1), ('b', 1)])

    def test_most_of_all_observers(self):
        self.assertEqual(events(counted(1, 3, 2)), [('a', 1), ('a', 2), ('a', 3)])
        self.assertEqual(events(counted(3, 0)), [('a', 1), ('a', 2), ('a', 3)])
        self.assertEqual(events(counted(0, 2)), [('a', 1), ('a', 2)])

    def test_ascending(self):
        self.assertEqual(events(counted(20)), [('a', k) for k in range(1, 21)])
        names = (('a', 'ab', 'b'), ('b', 'ab', 'a', 'ab'))
        self.assertEqual(events((names,)), [('a', 1), ('ab', 1), ('ab', 2), ('b', 1)])

    def test_most_events(self):
        case = tuple(((name,), (name,) * 20) for name in 'fedcba')
        self.assertEqual(events(case), [(name, k) for name in 'abcdef' for k in range(1, 21)])

    def test_many_cases(self):
        for case in small_cases() + large_cases():
            found = events(case)
            self.assertEqual(found, reference.events(case))
            self.assertIs(type(found), list)
            for event in found:
                self.assertEqual([type(event), type(event[0]), type(event[1])], [tuple, str, int])

    def test_new_lists(self):
        check_new_lists(self, events, GOOD_CASE)
        check_new_lists(self, events, ((('a',), ()),))

    def test_errors(self):
        for case in NO_CASES:
            check_raises(self, InvalidCase, events, case)


if __name__ == '__main__':
    unittest.main()
