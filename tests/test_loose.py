"""Points 20 and 21 and partviews/loose.py."""

import copy
import random
import unittest

from partviews.errors import InvalidCase, InvalidFamily, InvalidNumber, InvalidRing
from partviews.growing import growing_log
from partviews.logs import is_case
from partviews.loose import built_growing_case, every_grows, growing_threshold, is_loose_ring, longest_loose_ring
from partviews.thresholds import threshold
from tests import growing_reference as growing
from tests import reference
from tests.samples import (
    GOOD_CASE, NAMES, NO_CASES, NO_FAMILIES, ODD_VALUES, RING_CASE, check_raises, cycle_family, large_growing_cases,
    other_runs, random_family, same_again, small_growing_cases,
)
from tests.test_bare import FOUR, PAIRS, SIX, THREE
from tests.test_conflicts import NO_NUMBERS

ALL_SIX = ('a', 'b', 'c', 'd', 'e', 'f')
TWINS = (('a', 'b'), ('a', 'b'))
THREES = (('a', 'b', 'c'), ('a', 'b', 'd'), ('a', 'c', 'd'), ('b', 'c', 'd'))
RING = (('a', 0), ('b', 1), ('c', 2))
CROSSED = ((('a', 'b'), ('a',)), (('a', 'b'), ('b',)))


def families():
    rng = random.Random(231)
    found = [random_family(rng, most_in_set=1 + at % 6) for at in range(120)]
    found += [cycle_family(rng, 3 + at % 4) for at in range(60)]
    for at in range(60):
        names = sorted(rng.sample(NAMES, 5 + at % 4))
        found.append(tuple(tuple(sorted(rng.sample(names, rng.randint(2, 4)))) for _ in range(6)))
    found += [THREE, FOUR, SIX, PAIRS, TWINS, THREES]
    return found + [(ALL_SIX,), (ALL_SIX,) * 6, (('a',),) * 6, (('a', 'b'),) * 6]


def other_loose(family, ring):
    """Tuples that differ from a loose ring at one place, and the ring turned and reversed."""
    found = [ring[at:] + ring[:at] for at in range(len(ring))]
    found += [row[::-1] for row in found]
    found += [ring + ring, ring[:1], ring[:1] * 2, (), ring + ring[:1]]
    names = growing.names_of(family)
    for at, (name, observer) in enumerate(ring):
        found.append(ring[:at] + ring[at + 1:])
        entries = [(other, observer) for other in names + ['q']]
        entries += [(name, other) for other in range(-1, len(family) + 1)]
        for entry in entries:
            found.append(ring[:at] + (entry,) + ring[at + 1:])
            found.append(ring[:at] + (entry,) + ring[at:])
        for other in range(at):
            row = list(ring)
            row[at], row[other] = row[other], row[at]
            found.append(tuple(row))
            row[at], row[other] = (row[at][0], row[other][1]), (row[other][0], row[at][1])
            found.append(tuple(row))
    return found


def right(family, row):
    """Whether a tuple of pairs of a string and an integer is a loose ring."""
    if any(observer not in range(len(family)) or name not in family[observer] for name, observer in row):
        return False
    return growing.is_loose(family, row)


class IsLooseRingTest(unittest.TestCase):

    def check(self, family, value, answer):
        before = copy.deepcopy(value)
        self.assertIs(is_loose_ring(family, value), answer, (family, value))
        self.assertEqual(repr(value), repr(before))

    def test_turned_and_reversed(self):
        for at in range(3):
            self.check(THREE, RING[at:] + RING[:at], True)
        self.check(THREE, RING[::-1], False)
        back = (('c', 1), ('b', 0), ('a', 2))
        for at in range(3):
            self.check(THREE, back[at:] + back[:at], True)
        self.check(THREE, (('a', 1), ('b', 2), ('c', 0)), False)
        self.check(THREE, (('b', 0), ('c', 1), ('a', 2)), False)

    def test_two_pairs(self):
        for ring in [(('a', 0), ('b', 1)), (('a', 1), ('b', 0)), (('b', 0), ('a', 1)), (('b', 1), ('a', 0))]:
            self.check(TWINS, ring, True)
            self.check((('a', 'b', 'c'), ('a', 'b', 'x')), ring, True)
            self.check((('a',), ('a', 'b')), ring, False)
        for ring in [(('a', 0), ('b', 0)), (('a', 1), ('b', 1)), (('a', 0), ('a', 1)), (('a', 0), ('a', 0))]:
            self.check(TWINS, ring, False)
        self.check((('a', 'b'), ('b', 'c')), (('a', 0), ('b', 1)), False)
        self.check((('a', 'b'), ('b', 'c')), (('b', 0), ('c', 1)), False)

    def test_observers_of_more_names_of_the_ring(self):
        self.check((('a', 'b', 'c'), ('b', 'c'), ('a', 'c')), RING, False)
        self.check((('a', 'b', 'x'), ('b', 'c', 'y'), ('a', 'c', 'z')), RING, True)
        # An observer that has no pair may see as much as it likes.
        self.check(THREE + (('a', 'b', 'c'),), RING, True)
        self.check(THREES, (('a', 1), ('b', 3), ('c', 2)), True)
        self.check(THREES, (('a', 1), ('d', 3), ('c', 0)), True)
        self.check(THREES, (('a', 1), ('d', 3), ('c', 2)), False)
        self.check(THREES, (('a', 0), ('b', 3), ('d', 2)), True)
        self.check(THREES, (('a', 1), ('b', 3), ('d', 2)), False)
        self.check(THREES, (('a', 1), ('b', 0), ('c', 3), ('d', 2)), False)

    def test_four_and_six(self):
        self.check(FOUR, (('a', 0), ('c', 1), ('b', 2), ('d', 3)), True)
        self.check(FOUR, (('d', 2), ('b', 1), ('c', 0), ('a', 3)), True)
        self.check(FOUR, (('a', 0), ('c', 1), ('d', 2), ('b', 3)), False)
        self.check(SIX, tuple(zip('aecbfd', range(6))), True)
        self.check(SIX, tuple(zip('aecbfd', (1, 2, 3, 4, 5, 0))), False)
        self.check(PAIRS, (('a', 0), ('b', 3), ('c', 5), ('d', 2)), True)
        self.check(PAIRS, (('a', 0), ('b', 3), ('c', 5), ('d', 1)), False)

    def test_one_pair_and_none(self):
        for ring in [(), (('a', 0),), (('b', 0),), (('a', 1),)]:
            self.check(THREE, ring, False)
            self.check(TWINS, ring, False)
            self.check((('a',),), ring, False)

    def test_repeated(self):
        self.check(THREE, RING + RING, False)
        self.check(THREE, RING + RING[:1], False)
        self.check(TWINS * 2, (('a', 0), ('b', 1), ('a', 2), ('b', 3)), False)
        self.check(THREE * 2, (('a', 0), ('b', 1), ('c', 2), ('a', 3), ('b', 4), ('c', 5)), False)
        self.check(THREE * 2, (('a', 0), ('b', 4), ('c', 2)), True)

    def test_kinds(self):
        self.check(THREE, list(RING), False)
        self.check(THREE, tuple(list(pair) for pair in RING), False)
        self.check(THREE, RING[:2] + (['c', 2],), False)
        self.check(TWINS, (('a', False), ('b', True)), False)
        self.check(TWINS, (('a', 0), ('b', True)), False)
        self.check(TWINS, (('a', False), ('b', 1)), False)
        self.check(TWINS, (('a', 0), ('b', -1)), False)
        self.check(TWINS, (('a', -2), ('b', 1)), False)
        self.check(TWINS, (('a', 0), ('b', 2)), False)
        self.check(TWINS, (('a', 0), ('b', '1')), False)
        self.check(TWINS, (('a', 0), ('b', 1, 0)), False)
        self.check(TWINS, (('a', 0), ('b',)), False)
        self.check(TWINS, ((0, 'a'), (1, 'b')), False)
        self.check(TWINS, ('a0', 'b1'), False)
        self.check(TWINS, ('a', 'b'), False)
        self.check(TWINS, ((('a',), 0), ('b', 1)), False)
        self.check(TWINS, (('a', 0), ('b', 10 ** 30)), False)

    def test_any_value(self):
        for value in ODD_VALUES:
            self.check(THREE, value, False)
            self.check(THREE, (value, value), False)
            for at in range(3):
                self.check(THREE, RING[:at] + (value,) + RING[at + 1:], False)
                self.check(THREE, RING[:at] + (value,) + RING[at:], False)
                name, observer = RING[at]
                for entry in [(value, observer), (name, value), (name, observer, value)]:
                    same = entry == (name, observer) and type(entry[1]) is int
                    self.check(THREE, RING[:at] + (entry,) + RING[at + 1:], same)

    def test_changed_rings(self):
        rings = 0
        for family in families():
            for ring in growing.loose_rings(family)[:2]:
                rings += 1
                self.check(family, ring, True)
                for row in other_loose(family, ring):
                    self.check(family, row, right(family, row))
        self.assertGreater(rings, 250)

    def test_errors(self):
        for family in NO_FAMILIES:
            check_raises(self, InvalidFamily, is_loose_ring, family, RING)
            check_raises(self, InvalidFamily, is_loose_ring, family, None)
        check_raises(self, InvalidFamily, is_loose_ring, list(THREE), RING)


class LongestTest(unittest.TestCase):

    def check(self, family):
        ring = longest_loose_ring(family)
        number = growing.growing_threshold(family)
        self.assertEqual(growing_threshold(family), number, family)
        self.assertIs(type(growing_threshold(family)), int)
        if number == 1:
            self.assertIsNone(ring)
        else:
            self.assertIs(type(ring), tuple)
            self.assertEqual(len(ring), number, family)
            self.assertIs(right(family, ring), True, (family, ring))
            self.assertIs(is_loose_ring(family, ring), True)
        self.assertEqual(longest_loose_ring(same_again(family)), ring)
        return number

    def test_examples(self):
        self.assertIsNone(longest_loose_ring((('a', 'b'), ('b', 'c'))))
        for family, number in [
            ((('a', 'b'), ('b', 'c')), 1), (THREES, 3), (THREE, 3), (FOUR, 4), (SIX, 6), (PAIRS, 4), (TWINS, 2),
            (TWINS * 3, 2), ((('a',),), 1), ((('a',),) * 6, 1), ((ALL_SIX,), 1), ((ALL_SIX, ALL_SIX), 2),
            ((ALL_SIX,) * 6, 2), ((ALL_SIX, ('a', 'f')), 2), ((ALL_SIX, ('a', 'g')), 1), ((ALL_SIX,) + THREE, 3),
        ]:
            self.assertEqual(growing_threshold(family), number)
            self.check(family)

    def test_lengths(self):
        for size in range(3, 7):
            family = tuple(tuple(sorted(pair)) for pair in zip('abcdef'[:size], 'abcdef'[1:size] + 'a'))
            self.assertEqual(self.check(family), size)
            self.assertEqual(self.check(family[::-1]), size)
            self.assertEqual(self.check(family[1:]), 1)
            self.assertEqual(self.check(family[1:] + family[1:2]), 2)

    def test_one_observer_of_all_names(self):
        for size in range(3, 6):
            pairs = tuple(tuple(sorted(pair)) for pair in zip('abcdef'[:size], 'abcdef'[1:size] + 'a'))
            whole = tuple('abcdef'[:size])
            self.assertEqual(self.check(pairs + (whole,)), size)
            # In the place of a pair it sees too much of the ring, but with any other one it makes a ring of two.
            self.assertEqual(self.check(pairs[1:] + (whole,)), 2)
            self.assertEqual(threshold(pairs + (whole,)), 2)

    def test_both_directions(self):
        # The thresholds may differ in both directions.
        self.assertEqual([threshold(THREES), growing_threshold(THREES)], [2, 3])
        self.assertEqual([threshold(PAIRS), growing_threshold(PAIRS)], [3, 4])
        family = (('a', 'b', 'c'), ('b', 'c', 'd'))
        self.assertEqual([threshold(family), growing_threshold(family)], [2, 2])
        self.assertEqual([threshold(SIX), growing_threshold(SIX)], [6, 6])
        self.assertEqual([threshold((('a',), ('a',))), growing_threshold((('a',), ('a',)))], [2, 1])
        self.assertEqual([threshold((('a', 'b'), ('b', 'c'))), growing_threshold((('a', 'b'), ('b', 'c')))], [2, 1])

    def test_many_families(self):
        found = []
        differ = []
        for family in families():
            found.append(self.check(family))
            differ.append(found[-1] - threshold(family))
        self.assertEqual(set(found), {1, 2, 3, 4, 5, 6})
        self.assertGreater(max(differ), 0)
        self.assertLess(min(differ), 0)

    def test_same_result_in_another_run(self):
        program = (
            'from partviews.loose import longest_loose_ring\n'
            'from tests.test_loose import families\n'
            'print([longest_loose_ring(family) for family in families()])\n'
        )
        found = other_runs(program)
        self.assertEqual(found, [repr([longest_loose_ring(family) for family in families()]) + '\n'] * 3)

    def test_errors(self):
        for family in NO_FAMILIES:
            check_raises(self, InvalidFamily, longest_loose_ring, family)
            check_raises(self, InvalidFamily, growing_threshold, family)


class BuiltTest(unittest.TestCase):

    def test_examples(self):
        self.assertEqual(
            built_growing_case(TWINS, (('a', 0), ('b', 1))), ((('a', 'b'), ('a', 'b')), (('a', 'b'), ('b', 'a'))))
        self.assertEqual(
            built_growing_case(TWINS, (('b', 0), ('a', 1))), ((('a', 'b'), ('b', 'a')), (('a', 'b'), ('a', 'b'))))
        self.assertEqual(built_growing_case(THREE, RING), tuple(zip(THREE, [('a', 'b'), ('b', 'c'), ('c', 'a')])))
        self.assertEqual(built_growing_case(THREE, RING[1:] + RING[:1]), built_growing_case(THREE, RING))

    def test_all_others_have_seen_nothing(self):
        family = (('a', 'b', 'c'), ('a', 'c'), ('x',), ('a', 'b', 'x'), ('b', 'c', 'x'))
        ring = (('c', 1), ('a', 3), ('b', 4))
        views = [(), ('c', 'a'), (), ('a', 'b'), ('b', 'c')]
        self.assertEqual(built_growing_case(family, ring), tuple(zip(family, views)))

    def test_many_families(self):
        rings = 0
        for family in families():
            for ring in growing.loose_rings(family)[:5]:
                rings += 1
                case = built_growing_case(family, ring)
                self.assertEqual(tuple(names for names, _ in case), family)
                self.assertIs(is_case(case), True)
                pairs = {observer: at for at, (_, observer) in enumerate(ring)}
                for observer, (_, view) in enumerate(case):
                    at = pairs.get(observer)
                    row = ring + ring[:1]
                    self.assertEqual(view, () if at is None else (row[at][0], row[at + 1][0]))
                self.assertIsNone(growing_log(case))
                self.assertIsNone(growing.growing_log(case))
                self.assertIs(growing.every_grows(case, len(ring) - 1), True)
                self.assertIs(every_grows(case, len(ring) - 1), True)
                self.assertIs(every_grows(case, len(ring)), False)
                self.assertEqual(built_growing_case(same_again(family), same_again(ring)), case)
        self.assertGreater(rings, 250)

    def test_no_loose_ring(self):
        for value in ODD_VALUES + [list(RING), RING[::-1], RING + RING, RING[:2], (), ('a', 'b', 'c'), THREE]:
            check_raises(self, InvalidRing, built_growing_case, THREE, value)
        for family in families()[::6]:
            for ring in growing.loose_rings(family)[:1]:
                for row in other_loose(family, ring):
                    if not right(family, row):
                        check_raises(self, InvalidRing, built_growing_case, family, row)
        check_raises(self, InvalidRing, built_growing_case, TWINS, (('a', False), ('b', True)))
        check_raises(self, InvalidRing, built_growing_case, TWINS, (('a', 0), ('b', True)))

    def test_errors_in_their_order(self):
        for family in NO_FAMILIES:
            check_raises(self, InvalidFamily, built_growing_case, family, RING)
            check_raises(self, InvalidFamily, built_growing_case, family, None)


class EveryGrowsTest(unittest.TestCase):

    def answers(self, case):
        return [every_grows(case, number) for number in range(1, 7)]

    def test_examples(self):
        self.assertEqual(self.answers(CROSSED), [True] + [False] * 5)
        self.assertEqual(self.answers(GOOD_CASE), [True] * 6)
        self.assertEqual(self.answers(RING_CASE), [True] * 2 + [False] * 4)
        self.assertEqual(self.answers(((('a', 'b'), ('a',)),)), [True] * 6)
        self.assertEqual(self.answers(((('a',), ('a',)), (('a',), ()))), [True] * 6)

    def test_only_some_views(self):
        fine = (('x',), ('x',))
        self.assertEqual(self.answers((fine, fine) + CROSSED), [True] + [False] * 5)
        self.assertEqual(self.answers(CROSSED + (fine,)), [True] + [False] * 5)
        self.assertEqual(self.answers((fine, fine) + RING_CASE), [True] * 2 + [False] * 4)
        self.assertEqual(self.answers((fine,) * 6), [True] * 6)

    def test_many_cases(self):
        found = []
        for case in small_growing_cases() + large_growing_cases()[:60]:
            for number in range(1, 7):
                found.append((number, every_grows(case, number)))
                self.assertIs(found[-1][1], growing.every_grows(case, number), (case, number))
            self.assertIs(every_grows(case, 6), growing_log(case) is not None)
        for number in range(2, 7):
            self.assertGreater(min(found.count((number, True)), found.count((number, False))), 20)

    def test_errors(self):
        for case in NO_CASES:
            check_raises(self, InvalidCase, every_grows, case, 2)
            check_raises(self, InvalidCase, every_grows, case, 0)
            check_raises(self, InvalidCase, every_grows, case, None)
        for number in NO_NUMBERS:
            check_raises(self, InvalidNumber, every_grows, GOOD_CASE, number)
            check_raises(self, InvalidNumber, every_grows, CROSSED, number)
            check_raises(self, InvalidCase, every_grows, (), number)


class ThresholdTest(unittest.TestCase):
    """Points 3 and 21: how many views of a growing case are enough, and that no fewer are."""

    def test_enough_views(self):
        found = []
        for case in small_growing_cases() + large_growing_cases()[:60]:
            number = growing_threshold(tuple(names for names, _ in case))
            self.assertIs(every_grows(case, number), growing_log(case) is not None, case)
            found.append(growing_log(case) is not None)
        self.assertGreater(min(found.count(True), found.count(False)), 50)

    def test_all_small_cases(self):
        for family in [
            TWINS, THREE, (('a', 'b'), ('b', 'c')), (('a',), ('a', 'b')), (('a', 'b', 'c'), ('b', 'c')),
            (('a',), ('a',), ('a',)), (('a', 'b'), ('a', 'b', 'c'), ('b', 'c')),
        ]:
            number = growing_threshold(family)
            cases = [()]
            for known in family:
                views = [()] + [(name,) for name in known] + [(one, two) for one in known for two in known]
                cases = [case + ((known, view),) for case in cases for view in views]
            for case in cases:
                self.assertIs(every_grows(case, number), growing_log(case) is not None, case)
            for fewer in range(1, number):
                self.assertTrue([case for case in cases if every_grows(case, fewer) and growing_log(case) is None])

    def test_no_lesser_number(self):
        for family in families():
            ring = longest_loose_ring(family)
            if ring is not None:
                case = built_growing_case(family, ring)
                for fewer in range(1, growing_threshold(family)):
                    self.assertIs(every_grows(case, fewer), True)
                self.assertIsNone(growing_log(case))

    def test_growing_rings_are_not_longer(self):
        for case in small_growing_cases():
            length = growing.growing_ring_length(case)
            if length is not None:
                self.assertLessEqual(length, growing_threshold(tuple(names for names, _ in case)))
                self.assertIs(every_grows(case, length - 1), True)
                self.assertIs(reference.every(case, 1), True)


if __name__ == '__main__':
    unittest.main()
