"""Point 10 and partviews/conflicts.py."""

import unittest
from itertools import combinations

from partviews.conflicts import fits_every, minimal_conflicts
from partviews.errors import InvalidCase, InvalidNumber
from tests import reference
from tests.samples import (
    GOOD_CASE, NO_CASES, ODD_VALUES, RING_CASE, check_new_lists, check_raises, large_cases, same_again, small_cases,
)

NO_NUMBERS = [value for value in ODD_VALUES if repr(value) != '1'] + [0, -1, 7, 8, 10 ** 9, True, '1', '2', (2,), [2]]
FOUR_RING = (
    (('a', 'b'), ('a', 'b')), (('b', 'c'), ('b', 'c')), (('c', 'd'), ('c', 'd')), (('a', 'd'), ('d', 'a')),
)
# Observers 0 and 3 have counted a differently; 1, 2 and 4 have a ring of b, c and d; 1 and 5 exchange b and c.
SEVERAL = (
    (('a',), ('a',)), (('b', 'c'), ('b', 'c')), (('c', 'd'), ('c', 'd')), (('a',), ('a', 'a')),
    (('b', 'd'), ('d', 'b')), (('b', 'c'), ('c', 'b')),
)


class FitsEveryTest(unittest.TestCase):

    def test_three_views(self):
        self.assertEqual([fits_every(RING_CASE, number) for number in range(1, 7)],
                         [True, True, False, False, False, False])
        self.assertEqual([fits_every(GOOD_CASE, number) for number in range(1, 7)], [True] * 6)

    def test_four_views(self):
        self.assertEqual([fits_every(FOUR_RING, number) for number in range(1, 7)], [True] * 3 + [False] * 3)
        self.assertEqual([fits_every(SEVERAL, number) for number in range(1, 7)], [True] + [False] * 5)

    def test_one_view(self):
        case = ((('a', 'b'), ('b', 'a')),)
        self.assertEqual([fits_every(case, number) for number in range(1, 7)], [True] * 6)

    def test_fewer_observers(self):
        case = ((('a',), ('a',)), (('a',), ()))
        self.assertEqual([fits_every(case, number) for number in range(1, 7)], [True] + [False] * 5)
        case = ((('a',), ('a',)),) * 2
        self.assertEqual([fits_every(case, number) for number in range(1, 7)], [True] * 6)

    def test_only_the_last_group_conflicts(self):
        fine = (('x',), ('x',))
        self.assertIs(fits_every((fine, fine) + RING_CASE, 3), False)
        self.assertIs(fits_every(RING_CASE + (fine, fine), 3), False)
        self.assertIs(fits_every((fine, fine) + RING_CASE, 2), True)
        self.assertIs(fits_every((fine, fine) + FOUR_RING, 3), True)
        self.assertIs(fits_every((fine, fine) + FOUR_RING, 4), False)

    def test_many_cases(self):
        for case in small_cases() + large_cases():
            for number in range(1, 7):
                self.assertIs(fits_every(case, number), reference.every(case, number), (case, number))

    def test_errors(self):
        for case in NO_CASES:
            check_raises(self, InvalidCase, fits_every, case, 2)
            check_raises(self, InvalidCase, fits_every, case, 0)
            check_raises(self, InvalidCase, fits_every, case, None)
        for number in NO_NUMBERS:
            check_raises(self, InvalidNumber, fits_every, GOOD_CASE, number)
            check_raises(self, InvalidNumber, fits_every, RING_CASE, number)
            check_raises(self, InvalidCase, fits_every, (), number)


class ConflictsTest(unittest.TestCase):

    def test_examples(self):
        self.assertEqual(minimal_conflicts(RING_CASE), [(0, 1, 2)])
        self.assertEqual(minimal_conflicts(GOOD_CASE), [])
        self.assertEqual(minimal_conflicts(FOUR_RING), [(0, 1, 2, 3)])
        self.assertEqual(minimal_conflicts(((('a',), ('a',)),)), [])
        self.assertEqual(minimal_conflicts(((('a',), ('a',)), (('a', 'b'), ('b',)))), [(0, 1)])

    def test_several_at_once(self):
        self.assertEqual(minimal_conflicts(SEVERAL), reference.minimal_conflicts(SEVERAL))
        self.assertEqual(minimal_conflicts(SEVERAL), [(0, 3), (1, 5), (1, 2, 4)])

    def test_shorter_first_and_ascending(self):
        case = ((('a',), ('a',)), (('a',), ('a', 'a')), (('a',), ()), (('a',), ('a',)))
        self.assertEqual(minimal_conflicts(case), [(0, 1), (0, 2), (1, 2), (1, 3), (2, 3)])
        case = (
            (('a', 'b'), ('a', 'b')), (('b', 'c'), ('b', 'c')), (('a', 'c'), ('c', 'a')), (('a', 'c'), ('c', 'a')),
            (('x',), ()), (('x',), ('x',)),
        )
        self.assertEqual(minimal_conflicts(case), [(4, 5), (0, 1, 2), (0, 1, 3)])

    def test_all_six(self):
        names = 'abcdef'
        case = tuple((tuple(sorted(pair)), pair) for pair in zip(names, names[1:] + names[0]))
        self.assertEqual(minimal_conflicts(case), [(0, 1, 2, 3, 4, 5)])
        self.assertEqual([fits_every(case, number) for number in range(1, 7)], [True] * 5 + [False])

    def test_many_cases(self):
        sizes = set()
        several = 0
        for case in small_cases() + large_cases():
            found = minimal_conflicts(case)
            self.assertEqual(found, reference.minimal_conflicts(case), case)
            self.assertEqual(found, sorted(found, key=lambda group: (len(group), group)))
            sizes |= {len(group) for group in found}
            several += len(found) > 1
            for group in found:
                self.assertIs(type(group), tuple)
                self.assertEqual([type(observer) for observer in group], [int] * len(group))
        self.assertEqual(sizes, {2, 3, 4, 5, 6})
        self.assertGreater(several, 5)

    def test_every_conflict_has_a_minimal_one(self):
        for case in small_cases()[::3]:
            found = minimal_conflicts(case)
            for size in range(1, len(case) + 1):
                for group in combinations(range(len(case)), size):
                    holds = any(set(other) <= set(group) for other in found)
                    self.assertIs(holds, not reference.together(case, group))

    def test_same_again(self):
        for case in small_cases()[:40]:
            self.assertEqual(minimal_conflicts(same_again(case)), minimal_conflicts(case))

    def test_new_lists(self):
        check_new_lists(self, minimal_conflicts, RING_CASE)
        check_new_lists(self, minimal_conflicts, GOOD_CASE)
        check_new_lists(self, minimal_conflicts, SEVERAL)

    def test_errors(self):
        for case in NO_CASES:
            check_raises(self, InvalidCase, minimal_conflicts, case)


if __name__ == '__main__':
    unittest.main()
