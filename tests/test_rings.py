"""Point 7 and partviews/rings.py."""

import copy
import random
import unittest

from partviews.errors import CountConflict, InvalidCase
from partviews.rings import is_ring, shortest_ring
from tests import reference
from tests.samples import (
    GOOD_CASE, NO_CASES, ODD_VALUES, RING, RING_CASE, cases_with_rings, check_new_lists, check_raises, large_cases,
    miscounted, other_runs, random_cases, same_again, small_cases, twisted,
)

TWO_VIEWS = ((('a', 'b'), ('a', 'b')), (('a', 'b'), ('b', 'a')))
TWO_RING = [('a', 1, 0), ('b', 1, 1)]


def found_rings(case, rng):
    """Some rings of a case, also long ones: random walks along its views that come back."""
    direct = reference.edges(case)
    rings = []
    for _ in range(12):
        row = [rng.choice(sorted(direct))] if direct else []
        for _ in range(8):
            if not row or not direct[row[-1]]:
                break
            row.append(rng.choice(sorted(direct[row[-1]])))
            if row[-1] in row[:-1]:
                start = row.index(row[-1])
                heads = row[start:-1]
                rings.append([
                    (name, k, rng.choice(direct[(name, k)][row[start + at + 1]]))
                    for at, (name, k) in enumerate(heads)
                ])
                break
    return rings


def other_rings(case, ring):
    """Lists that differ from a ring at one place."""
    found = [ring[at:] + ring[:at] for at in range(len(ring))]
    found += [ring[::-1], ring + ring, ring + ring[:1], ring[:1], ring[:1] * 2]
    for at, (name, k, i) in enumerate(ring):
        found.append(ring[:at] + ring[at + 1:])
        found.append(ring[:at] + [ring[at]] + ring[at:])
        entries = [(name, k, other) for other in range(-2, len(case) + 2)]
        entries += [(name, other, i) for other in range(-1, 5)]
        entries += [(other, k, i) for other in reference.all_names(case) + ['y', '', 'A']]
        for entry in entries:
            found.append(ring[:at] + [entry] + ring[at + 1:])
            found.append(ring[:at] + [entry] + ring[at:])
        for other in range(at):
            swapped = list(ring)
            swapped[at], swapped[other] = swapped[other], swapped[at]
            found.append(swapped)
    return found


class IsRingTest(unittest.TestCase):

    def check(self, case, value, right):
        before = copy.deepcopy(value)
        self.assertIs(is_ring(case, value), right, (case, value))
        self.assertEqual(repr(value), repr(before))

    def test_turned(self):
        for at in range(3):
            self.check(RING_CASE, RING[at:] + RING[:at], True)
        self.check(RING_CASE, RING[::-1], False)
        self.check(RING_CASE, [('c', 1, 0), ('b', 1, 2), ('a', 1, 1)], False)

    def test_two_steps(self):
        self.check(TWO_VIEWS, TWO_RING, True)
        self.check(TWO_VIEWS, TWO_RING[::-1], True)
        self.check(TWO_VIEWS, [('a', 1, 1), ('b', 1, 0)], False)
        self.check(TWO_VIEWS, [('a', 1, 0), ('b', 1, 0)], False)
        self.check(TWO_VIEWS, [('a', 1, 1), ('b', 1, 1)], False)

    def test_one_step_and_none(self):
        self.check(TWO_VIEWS, [], False)
        self.check(TWO_VIEWS, [('a', 1, 0)], False)
        self.check(((('a',), ('a', 'a')),), [('a', 1, 0)], False)
        self.check(((('a',), ('a', 'a')),), [('a', 1, 0), ('a', 2, 0)], False)
        self.check(((('a',), ('a', 'a')),), [('a', 1, 0), ('a', 1, 0)], False)

    def test_same_event_again(self):
        self.check(TWO_VIEWS, TWO_RING + TWO_RING, False)
        self.check(TWO_VIEWS, TWO_RING + TWO_RING[:1], False)
        more = TWO_VIEWS + TWO_VIEWS
        self.check(more, TWO_RING + [('a', 1, 2), ('b', 1, 3)], False)
        self.check(more, [('a', 1, 2), ('b', 1, 1)], True)

    def test_same_name_again(self):
        case = ((('a', 'b'), ('a', 'b', 'a', 'b')), (('a', 'b'), ('b', 'a', 'b', 'a')))
        self.check(case, [('a', 1, 0), ('b', 1, 1)], True)
        self.check(case, [('a', 2, 0), ('b', 2, 1)], True)
        self.check(case, [('a', 1, 0), ('b', 2, 1)], False)
        self.check(case, [('a', 2, 0), ('b', 1, 1)], False)
        self.check(case, [('a', 1, 0), ('a', 2, 0), ('b', 2, 1), ('b', 1, 1)], False)
        self.check(case, [('a', 1, 0), ('b', 1, 0), ('a', 2, 0), ('b', 2, 1)], False)
        case = ((('a', 'b'), ('a', 'a', 'b', 'b')), (('a', 'b'), ('b', 'b', 'a', 'a')))
        self.check(case, [('a', 1, 0), ('a', 2, 0), ('b', 1, 0), ('b', 2, 1)], True)
        self.check(case, [('a', 1, 1), ('a', 2, 0), ('b', 1, 1), ('b', 2, 1)], True)
        self.check(case, [('a', 1, 0), ('a', 2, 0), ('b', 1, 0), ('b', 2, 0)], False)
        self.check(case, [('a', 2, 0), ('a', 1, 0), ('b', 1, 0), ('b', 2, 1)], False)

    def test_events_that_were_not_seen(self):
        case = ((('a', 'b', 'c'), ('a', 'b')), (('a', 'b'), ('b', 'a')), (('c',), ('c',)))
        self.check(case, [('a', 1, 0), ('b', 1, 1)], True)
        self.check(case, [('a', 1, 0), ('c', 1, 2)], False)
        self.check(case, [('a', 1, 0), ('c', 1, 0)], False)
        self.check(case, [('c', 1, 0), ('b', 1, 1)], False)
        self.check(case, [('a', 1, 2), ('b', 1, 1)], False)
        self.check(case, [('a', 1, 0), ('b', 2, 1)], False)
        self.check(case, [('a', 1, 0), ('b', 1, 1), ('c', 1, 2)], False)

    def test_count_conflicts_do_not_matter(self):
        case = ((('a', 'b'), ('a', 'b', 'b')), (('a', 'b'), ('b', 'a')))
        self.check(case, TWO_RING, True)
        self.check(case, [('a', 1, 0), ('b', 2, 1)], False)
        self.check(case, [('a', 1, 0), ('b', 2, 0)], False)
        self.check(case, [('b', 2, 0), ('a', 1, 0)], False)

    def test_kinds(self):
        self.check(TWO_VIEWS, tuple(TWO_RING), False)
        self.check(TWO_VIEWS, [list(entry) for entry in TWO_RING], False)
        self.check(TWO_VIEWS, [TWO_RING[0], list(TWO_RING[1])], False)
        self.check(TWO_VIEWS, [('a', True, 0), ('b', 1, 1)], False)
        self.check(TWO_VIEWS, [('a', 1, 0), ('b', True, 1)], False)
        self.check(TWO_VIEWS, [('a', 1, False), ('b', 1, 1)], False)
        self.check(TWO_VIEWS, [('a', 1, 0), ('b', 1, True)], False)
        self.check(TWO_VIEWS, [('a', 1, 0), ('b', 1, -1)], False)
        self.check(TWO_VIEWS, [('a', 1, -2), ('b', 1, 1)], False)
        self.check(TWO_VIEWS, [('a', 1, 0), ('b', 1, 2)], False)
        self.check(TWO_VIEWS, [('a', 1, 0), ('b', 0, 1)], False)
        self.check(TWO_VIEWS, [('a', 0, 0), ('b', 0, 1)], False)
        self.check(TWO_VIEWS, [('a', -1, 0), ('b', 1, 1)], False)
        self.check(TWO_VIEWS, [('a', 1, 0), ('b', 1, '1')], False)
        self.check(TWO_VIEWS, [('a', 1, 0), ('b', '1', 1)], False)
        self.check(TWO_VIEWS, [('a', 1, 0), ('b', 1)], False)
        self.check(TWO_VIEWS, [('a', 1), ('b', 1)], False)
        self.check(TWO_VIEWS, [('a', 1, 0, 0), ('b', 1, 1, 0)], False)
        self.check(TWO_VIEWS, [('a', 1, 0), ('b', 1, 10 ** 30)], False)
        self.check(TWO_VIEWS, [('a', 1, 0), ('b', 10 ** 30, 1)], False)
        self.check(TWO_VIEWS, ['a10', 'b11'], False)

    def test_any_value(self):
        for value in ODD_VALUES:
            self.check(RING_CASE, value, False)
            self.check(RING_CASE, [value], False)
            for at in range(3):
                self.check(RING_CASE, RING[:at] + [value] + RING[at + 1:], False)
                self.check(RING_CASE, RING[:at] + [value] + RING[at:], False)
                name, k, i = RING[at]
                for entry in [(value, k, i), (name, value, i), (name, k, value), (name, k, i, value)]:
                    changed = RING[:at] + [entry] + RING[at + 1:]
                    self.check(RING_CASE, changed, reference.is_ring(RING_CASE, changed))

    def test_changed_rings_of_many_cases(self):
        rng = random.Random(31)
        many = 0
        cases = random_cases(32, 80, 12) + [twisted(rng, case, 6) for case in random_cases(33, 40, 12)]
        for case in cases:
            for ring in found_rings(case, rng):
                many += 1
                self.check(case, ring, True)
                for other in other_rings(case, ring):
                    self.check(case, other, reference.is_ring(case, other))
        self.assertGreater(many, 50)

    def test_no_ring(self):
        for case in small_cases():
            if reference.ring_length(case) is None:
                row = reference.events(case)
                for i in range(len(case)):
                    self.check(case, [(name, k, i) for name, k in row], False)

    def test_errors(self):
        for case in NO_CASES:
            check_raises(self, InvalidCase, is_ring, case, RING)
            check_raises(self, InvalidCase, is_ring, case, None)
        check_raises(self, InvalidCase, is_ring, list(RING_CASE), RING)


class ShortestRingTest(unittest.TestCase):

    def check(self, case):
        length = reference.ring_length(case)
        ring = shortest_ring(case)
        if length is None:
            self.assertIsNone(ring, case)
            return
        self.assertTrue(reference.is_ring(case, ring), (case, ring))
        self.assertEqual(len(ring), length, (case, ring))
        self.assertIs(is_ring(case, ring), True)
        self.assertEqual(shortest_ring(same_again(case)), ring)

    def test_no_ring(self):
        self.assertIsNone(shortest_ring(GOOD_CASE))
        self.assertIsNone(shortest_ring(((('a',), ()),)))
        self.assertIsNone(shortest_ring(((('a',), ('a', 'a')),)))
        self.assertIsNone(shortest_ring(RING_CASE[:2]))

    def test_short_rings(self):
        self.check(RING_CASE)
        self.check(TWO_VIEWS)
        self.check(RING_CASE + TWO_VIEWS)
        self.check(TWO_VIEWS + RING_CASE)
        self.check(((('a', 'b', 'c'), ('a', 'b', 'c')), (('a', 'c'), ('c', 'a'))))

    def test_rings_of_four_to_six(self):
        for size in (4, 5, 6):
            names = 'abcdef'[:size]
            case = tuple(
                ((one, other), (one, other)) if one < other else ((other, one), (one, other))
                for one, other in zip(names, names[1:] + names[0])
            )
            self.assertEqual(len(shortest_ring(case)), size)
            self.check(case)
            self.check(case[::-1])
            self.assertIsNone(shortest_ring(case[1:]))

    def test_short_ring_behind_a_long_one(self):
        case = (
            (('a', 'b'), ('a', 'b')), (('b', 'c'), ('b', 'c')), (('c', 'd'), ('c', 'd')), (('a', 'd'), ('d', 'a')),
            (('x', 'y'), ('x', 'y')), (('x', 'y'), ('y', 'x')),
        )
        self.assertEqual(len(shortest_ring(case)), 2)
        self.check(case)
        self.assertEqual(len(shortest_ring(case[:5])), 4)

    def test_ring_of_later_events(self):
        case = (
            (('a', 'b'), ('a', 'b', 'a', 'b')), (('b', 'c'), ('c', 'b', 'b', 'c')), (('a', 'c'), ('c', 'a', 'c', 'a')),
        )
        self.check(case)
        self.assertEqual(sorted(entry[1] for entry in shortest_ring(case)), [2, 2, 2])

    def test_many_cases(self):
        rng = random.Random(34)
        rings = 0
        cases = small_cases() + large_cases() + [twisted(rng, case, 8) for case in random_cases(35, 150, 40)]
        for case in cases:
            if reference.count_conflicts(case):
                check_raises(self, CountConflict, shortest_ring, case)
            else:
                rings += reference.ring_length(case) is not None
                self.check(case)
        self.assertGreater(rings, 40)

    def test_full_views(self):
        rng = random.Random(36)
        names = tuple('abcdef')
        view = names * 3 + names[:2]
        family = (names, names, tuple('cdefgh'), ('a', 'g', 'h'), ('b', 'g'), ('a', 'h'))
        log = view[:10] + ('g', 'h') + view[10:14] + ('g', 'h')
        case = tuple((known, reference.kept(log, known)) for known in family)
        self.check(case)
        for times in (1, 2, 3, 5, 9):
            for _ in range(4):
                self.check(twisted(rng, case, times))
        self.check(((names, view), (names, view)))
        self.check(((names, view), (names, view[::-1])))

    def test_count_conflict(self):
        for case in [
            ((('a',), ('a',)), (('a', 'b'), ('b',))),
            ((('a', 'b'), ('a', 'b', 'b')), (('a', 'b'), ('b', 'a'))),
            RING_CASE + ((('a',), ()),),
        ]:
            check_raises(self, CountConflict, shortest_ring, case)
        rng = random.Random(37)
        for case in random_cases(38, 40, 12):
            case = miscounted(rng, case)
            if reference.count_conflicts(case):
                check_raises(self, CountConflict, shortest_ring, case)

    def test_new_lists(self):
        check_new_lists(self, shortest_ring, RING_CASE)
        check_new_lists(self, shortest_ring, TWO_VIEWS)

    def test_same_result_after_other_calls(self):
        cases = [case for case in small_cases() if not reference.count_conflicts(case)]
        first = [shortest_ring(case) for case in cases]
        again = [shortest_ring(same_again(case)) for case in cases[::-1]]
        self.assertEqual(first, again[::-1])

    def test_same_result_in_another_run(self):
        program = (
            'from partviews.rings import shortest_ring\n'
            'from tests.samples import cases_with_rings\n'
            'print([shortest_ring(case) for case in cases_with_rings(39, 60, 8)])\n'
        )
        found = other_runs(program)
        self.assertEqual(found, [repr([shortest_ring(case) for case in cases_with_rings(39, 60, 8)]) + '\n'] * 3)

    def test_errors(self):
        for case in NO_CASES:
            check_raises(self, InvalidCase, shortest_ring, case)


if __name__ == '__main__':
    unittest.main()
