"""Points 12 to 14 and partviews/thresholds.py."""

import copy
import random
import unittest
from itertools import permutations, product

from partviews.bare import bare_rings
from partviews.conflicts import fits_every
from partviews.errors import InvalidFamily, InvalidRing
from partviews.joining import is_possible
from partviews.logs import is_case
from partviews.thresholds import built_case, is_complete, open_pair, threshold
from tests import growing_reference as growing
from tests import reference
from tests.samples import NAMES, NO_FAMILIES, ODD_VALUES, check_raises, cycle_family, random_family, same_again
from tests.test_bare import FOUR, PAIRS, SIX, THREE, other_rows, right

ALL_SIX = ('a', 'b', 'c', 'd', 'e', 'f')


def families():
    rng = random.Random(81)
    found = [random_family(rng, most_in_set=1 + at % 6) for at in range(90)]
    found += [cycle_family(rng, 3 + at % 4) for at in range(60)]
    for at in range(40):
        names = sorted(rng.sample(NAMES, 8))
        found.append(tuple(tuple(sorted(rng.sample(names, rng.randint(2, 4)))) for _ in range(6)))
    return found + [THREE, FOUR, SIX, PAIRS, (('a',),), (('a',),) * 6, (ALL_SIX,), (ALL_SIX,) * 6]


class ThresholdTest(unittest.TestCase):

    def test_no_shared_name(self):
        for family in [
            (('a',),), (('a', 'b', 'c', 'd', 'e', 'f'),), (('a',), ('b',)), (('b', 'c'), ('a',), ('d', 'e', 'f')),
            (('a', 'b', 'c', 'd'), ('e', 'f', 'g', 'h')), (('a',), ('ab',), ('b',)),
        ]:
            self.assertEqual(threshold(family), 1)

    def test_a_shared_name_and_no_ring(self):
        for family in [
            (('a',), ('a',)), (('a', 'b'), ('a', 'b')), (('a', 'b'), ('b', 'c')), (('a',),) * 6,
            (('a', 'b'), ('b', 'c'), ('a', 'b', 'c')), (('a', 'b'), ('b', 'c'), ('c', 'd')), (('x',), ('a',), ('x',)),
            (ALL_SIX, ('a', 'b'), ('b', 'c'), ('c', 'd'), ('d', 'e'), ('e', 'f')), (ALL_SIX, ('a',), ('f', 'g', 'h')),
            (('a', 'b', 'c', 'd'),) + FOUR, (ALL_SIX,) * 6,
        ]:
            self.assertEqual(threshold(family), 2)

    def test_rings(self):
        self.assertEqual(threshold(THREE), 3)
        self.assertEqual(threshold(FOUR), 4)
        self.assertEqual(threshold(SIX), 6)
        self.assertEqual(threshold(PAIRS), 3)
        self.assertEqual(threshold((('a', 'b'), ('b', 'c'), ('c', 'd'), ('d', 'e'), ('a', 'e'))), 5)
        self.assertEqual(threshold((('a', 'b'), ('b', 'c'), ('c', 'd'), ('d', 'e'), ('a', 'e'), ('a', 'c'))), 4)
        self.assertEqual(threshold(THREE + (('x',), ('x',))), 3)

    def test_longest_of_several_rings(self):
        family = (('a', 'b'), ('b', 'c'), ('c', 'd'), ('a', 'd', 'x'), ('x', 'y'), ('a', 'y'))
        self.assertEqual(bare_rings(family), [('a', 'x', 'y'), ('a', 'b', 'c', 'd')])
        self.assertEqual(threshold(family), 4)

    def test_many_families(self):
        found = set()
        for family in families():
            number = threshold(family)
            self.assertIs(type(number), int)
            self.assertEqual(number, growing.threshold(family), family)
            self.assertEqual(threshold(same_again(family)), number)
            self.assertEqual(threshold(family[::-1]), number)
            found.add(number)
        self.assertEqual(found, {1, 2, 3, 4, 5, 6})

    def test_argument_is_not_changed(self):
        family = copy.deepcopy(FOUR)
        threshold(family)
        self.assertEqual(family, FOUR)

    def test_errors(self):
        for family in NO_FAMILIES:
            check_raises(self, InvalidFamily, threshold, family)


class BuiltCaseTest(unittest.TestCase):

    def check(self, family, ring, case):
        self.assertEqual(built_case(family, ring), case)
        self.assertEqual(growing.built_case(family, ring), case)

    def test_turned_and_reversed(self):
        ab, bc, ac = THREE
        forth = ((ab, ('a', 'b')), (bc, ('b', 'c')), (ac, ('c', 'a')))
        for ring in ['abc', 'bca', 'cab']:
            self.check(THREE, tuple(ring), forth)
        back = ((ab, ('b', 'a')), (bc, ('c', 'b')), (ac, ('a', 'c')))
        for ring in ['cba', 'bac', 'acb']:
            self.check(THREE, tuple(ring), back)

    def test_one_name_and_none(self):
        family = FOUR + (('d', 'x'), ('x',))
        case = tuple(zip(family, [('a', 'c'), ('c', 'b'), ('b', 'd'), ('d', 'a'), ('d',), ()]))
        self.check(family, tuple('acbd'), case)
        case = tuple(zip(family, [('c', 'a'), ('b', 'c'), ('d', 'b'), ('a', 'd'), ('d',), ()]))
        self.check(family, tuple('dbca'), case)

    def test_further_names_and_equal_name_sets(self):
        family = (('a', 'b', 'x'), ('b', 'c', 'x'), ('a', 'c', 'x'), ('a', 'c', 'x'), ('x',), ('b', 'x'))
        case = tuple(zip(family, [('a', 'b'), ('b', 'c'), ('c', 'a'), ('c', 'a'), (), ('b',)]))
        self.check(family, tuple('bca'), case)
        self.check(family, tuple('abc'), case)

    def test_many_families(self):
        rings = 0
        for family in families():
            for ring in reference.bare_rings(family)[:6]:
                rings += 1
                for at in range(len(ring)):
                    turned = ring[at:] + ring[:at]
                    for row in (turned, turned[::-1]):
                        case = built_case(family, row)
                        self.assertEqual(case, growing.built_case(family, row))
                        self.assertIs(is_case(case), True)
                        self.assertEqual(built_case(same_again(family), same_again(row)), case)
                case = built_case(family, ring)
                self.assertIs(reference.least(case), None)
                self.assertIs(reference.every(case, len(ring) - 1), True)
        self.assertGreater(rings, 100)

    def test_not_possible_but_fewer_views_fit(self):
        for family in [THREE, FOUR, SIX, PAIRS]:
            for ring in bare_rings(family):
                case = built_case(family, ring)
                self.assertIs(is_possible(case), False)
                self.assertIs(fits_every(case, len(ring) - 1), True)
                self.assertIs(fits_every(case, len(ring)), False)

    def test_no_bare_ring(self):
        for value in ODD_VALUES + ['abc', ['a', 'b', 'c'], tuple('abca'), tuple('abb'), tuple('ab'), (), THREE]:
            check_raises(self, InvalidRing, built_case, THREE, value)
        for at in range(3):
            for value in ODD_VALUES:
                row = list('abc')
                row[at] = value
                if value != 'abc'[at]:
                    check_raises(self, InvalidRing, built_case, THREE, tuple(row))
        for row in permutations('abcd'):
            if not right(FOUR, row):
                check_raises(self, InvalidRing, built_case, FOUR, row)
        check_raises(self, InvalidRing, built_case, THREE[:2], tuple('abc'))
        check_raises(self, InvalidRing, built_case, THREE + (('a', 'b', 'c'),), tuple('abc'))

    def test_changed_rings(self):
        for family in families()[::5]:
            for ring in reference.bare_rings(family)[:2]:
                for row in other_rows(ring):
                    if right(family, row):
                        self.assertEqual(built_case(family, row), growing.built_case(family, row))
                    else:
                        check_raises(self, InvalidRing, built_case, family, row)

    def test_errors_in_their_order(self):
        for family in NO_FAMILIES:
            check_raises(self, InvalidFamily, built_case, family, ('a', 'b', 'c'))
            check_raises(self, InvalidFamily, built_case, family, None)
        check_raises(self, InvalidFamily, built_case, list(THREE), ('a', 'b', 'c'))


class CompleteTest(unittest.TestCase):

    def check(self, family, pair):
        self.assertEqual(open_pair(family), pair, family)
        self.assertIs(is_complete(family), pair is None, family)

    def test_complete(self):
        self.check(THREE, None)
        self.check(PAIRS, None)
        self.check((('a',),), None)
        self.check((('a',), ('a',)), None)
        self.check((ALL_SIX,), None)
        self.check((('a',), ('b',), ('a', 'b')), None)
        self.check((('a', 'b', 'c'), ('a', 'd'), ('b', 'c', 'd')), None)

    def test_open_pairs(self):
        self.check((('a',), ('b',)), ('a', 'b'))
        self.check((('b',), ('a',)), ('a', 'b'))
        self.check((('a', 'b'), ('b', 'c')), ('a', 'c'))
        self.check(FOUR, ('a', 'b'))
        self.check(PAIRS[1:], ('a', 'b'))
        self.check(PAIRS[:5], ('c', 'd'))
        self.check(PAIRS[:3] + PAIRS[4:], ('b', 'c'))
        self.check((('c', 'd'), ('a', 'b')), ('a', 'c'))
        self.check((('b', 'z'), ('ab', 'b'), ('ab', 'z'), ('a', 'z'), ('a', 'ab')), ('a', 'b'))
        self.check((ALL_SIX, ('f', 'g')), ('a', 'g'))
        self.check((ALL_SIX, ('g', 'h')), ('a', 'g'))
        self.check((ALL_SIX, ('a', 'b', 'c', 'd', 'e', 'g'), ('f', 'h')), ('a', 'h'))

    def test_many_families(self):
        answers = []
        for family in families():
            pairs = growing.open_pairs(family)
            self.check(family, min(pairs) if pairs else None)
            self.check(same_again(family[::-1]), min(pairs) if pairs else None)
            answers.append(bool(pairs))
        self.assertGreater(min(answers.count(True), answers.count(False)), 20)

    def test_kinds(self):
        self.assertIs(type(open_pair(FOUR)), tuple)
        self.assertEqual([type(name) for name in open_pair(FOUR)], [str, str])

    def test_errors(self):
        for family in NO_FAMILIES:
            check_raises(self, InvalidFamily, is_complete, family)
            check_raises(self, InvalidFamily, open_pair, family)


class SmallestNumberTest(unittest.TestCase):
    """Points 3 and 12, by all small cases of some families."""

    def test_all_small_cases(self):
        for family in [
            (('a',), ('b',)), (('a', 'b'),), (('a',), ('a',)), (('a', 'b'), ('a', 'b')), (('a', 'b'), ('b', 'c')),
            THREE, THREE + (('a', 'b'),), (('a', 'b'), ('b', 'c'), ('a', 'b', 'c')), FOUR, (('a', 'b'), ('b',), ('a',)),
        ]:
            number = threshold(family)
            cases = []
            for counts in product(range(3 if len(family) < 3 else 2), repeat=len(growing.names_of(family))):
                cases += growing.all_orders(family, dict(zip(growing.names_of(family), counts)))
            cases += [case[:-1] + ((case[-1][0], case[-1][1][1:]),) for case in cases]
            for case in cases:
                if fits_every(case, number):
                    self.assertIs(is_possible(case), True, case)
            for fewer in range(1, number):
                self.assertTrue([case for case in cases if fits_every(case, fewer) and not is_possible(case)])


if __name__ == '__main__':
    unittest.main()
