"""Point 11 and partviews/bare.py."""

import copy
import random
import unittest

from partviews.bare import bare_rings, is_bare_ring
from partviews.errors import InvalidFamily
from tests import reference
from tests.samples import (
    NAMES, NO_FAMILIES, ODD_VALUES, check_new_lists, check_raises, cycle_family, random_family, same_again,
)

THREE = (('a', 'b'), ('b', 'c'), ('a', 'c'))
FOUR = (('a', 'c'), ('b', 'c'), ('b', 'd'), ('a', 'd'))
SIX = tuple(tuple(sorted(pair)) for pair in zip('aecbfd', 'ecbfda'))
# All pairs of four names belong to common name sets: four rings of three names, none of four.
PAIRS = (('a', 'b'), ('a', 'c'), ('a', 'd'), ('b', 'c'), ('b', 'd'), ('c', 'd'))


def families():
    rng = random.Random(61)
    found = [random_family(rng, most_in_set=2 + at % 3) for at in range(60)]
    found += [cycle_family(rng, 3 + at % 4) for at in range(60)]
    for at in range(40):
        names = sorted(rng.sample(NAMES, 8))
        found.append(tuple(tuple(sorted(rng.sample(names, rng.randint(2, 4)))) for _ in range(6)))
    return found


def other_rows(ring):
    """Tuples that differ from a ring at one place, and the ring turned and reversed."""
    found = [ring[at:] + ring[:at] for at in range(len(ring))]
    found += [row[::-1] for row in found]
    found += [ring + ring, ring[:2], ring[:1], ()]
    for at in range(len(ring)):
        found.append(ring[:at] + ring[at + 1:])
        for name in NAMES + ('q', '', 'A', ring[0]):
            found.append(ring[:at] + (name,) + ring[at + 1:])
            found.append(ring[:at] + (name,) + ring[at:])
        for other in range(at):
            row = list(ring)
            row[at], row[other] = row[other], row[at]
            found.append(tuple(row))
    return found


def right(family, row):
    known = {name for names in family for name in names}
    return len(set(row)) == len(row) and set(row) <= known and reference.is_bare(family, row)


class IsBareRingTest(unittest.TestCase):

    def check(self, family, value, answer):
        before = copy.deepcopy(value)
        self.assertIs(is_bare_ring(family, value), answer, (family, value))
        self.assertEqual(repr(value), repr(before))

    def test_three_names(self):
        for row in ['abc', 'acb', 'bac', 'bca', 'cab', 'cba']:
            self.check(THREE, tuple(row), True)
            self.check(THREE[:2], tuple(row), False)
            self.check((('a', 'b', 'c'),), tuple(row), False)
            self.check(THREE + (('a', 'b', 'c'),), tuple(row), False)
            self.check((('a', 'b', 'c', 'd'),) + THREE, tuple(row), False)
            self.check((('a', 'b', 'd'), ('b', 'c', 'd'), ('a', 'c', 'd')), tuple(row), True)

    def test_four_names(self):
        for row in ['acbd', 'cbda', 'bdac', 'dacb', 'adbc', 'dbca', 'bcad', 'cadb']:
            self.check(FOUR, tuple(row), True)
        for row in ['abcd', 'acdb', 'adcb', 'abdc', 'cabd']:
            self.check(FOUR, tuple(row), False)
        for further in [('a', 'b'), ('c', 'd'), ('a', 'b', 'x'), ('a', 'b', 'c', 'd')]:
            self.check(FOUR + (further,), tuple('acbd'), False)
        self.check(FOUR + (('a', 'x'), ('a', 'c', 'x')), tuple('acbd'), True)
        self.check(FOUR[:3], tuple('acbd'), False)
        self.check(FOUR[1:], tuple('acbd'), False)
        self.check(PAIRS, tuple('abcd'), False)
        for row in ['abc', 'abd', 'acd', 'bcd']:
            self.check(PAIRS, tuple(row), True)

    def test_six_names(self):
        self.check(SIX, tuple('aecbfd'), True)
        self.check(SIX, tuple('bfdaec'), True)
        self.check(SIX, tuple('bceadf'), True)
        self.check(SIX, tuple('aecb'), False)
        self.check(SIX, tuple('abcdef'), False)
        self.check(SIX[1:], tuple('aecbfd'), False)

    def test_repeated_names(self):
        self.check(THREE, tuple('abca'), False)
        self.check(THREE, tuple('abcabc'), False)
        self.check(THREE, tuple('aab'), False)
        self.check(THREE, tuple('aaa'), False)
        self.check(FOUR, tuple('acbc'), False)
        self.check(FOUR, tuple('acac'), False)
        self.check(FOUR, tuple('aca'), False)

    def test_one_and_two_names(self):
        for row in [(), ('a',), ('a', 'b'), ('a', 'a'), ('a', 'c'), ('x',)]:
            self.check(THREE, row, False)
            self.check((('a', 'b'), ('a', 'b')), row, False)

    def test_other_values(self):
        self.check(THREE, ['a', 'b', 'c'], False)
        self.check(THREE, 'abc', False)
        self.check(THREE, (('a', 'b', 'c'),), False)
        self.check(THREE, [('a', 'b', 'c')], False)
        self.check(THREE, (('a',), ('b',), ('c',)), False)
        self.check(THREE, (['a'], ['b'], ['c']), False)
        self.check(THREE, ('a', 'b', 'x'), False)
        self.check(THREE, ('a', 'b', 'C'), False)
        self.check(THREE, THREE, False)
        for value in ODD_VALUES:
            self.check(THREE, value, False)
            for at in range(3):
                row = ('a', 'b', 'c')
                self.check(THREE, row[:at] + (value,) + row[at + 1:], value == row[at])
                self.check(THREE, row[:at] + (value,) + row[at:], False)
                self.check(THREE, (value,) * 3, False)

    def test_many_families(self):
        rng = random.Random(62)
        rings = 0
        for family in families():
            names = sorted({name for known in family for name in known})
            for _ in range(10):
                row = tuple(rng.sample(names, rng.randint(min(3, len(names)), len(names))))
                self.check(family, row, right(family, row))
            for ring in reference.bare_rings(family)[:4]:
                rings += 1
                self.check(family, ring, True)
                for row in other_rows(ring):
                    self.check(family, row, right(family, row))
        self.assertGreater(rings, 80)

    def test_errors(self):
        for family in NO_FAMILIES:
            check_raises(self, InvalidFamily, is_bare_ring, family, ('a', 'b', 'c'))
            check_raises(self, InvalidFamily, is_bare_ring, family, None)
        check_raises(self, InvalidFamily, is_bare_ring, list(THREE), ('a', 'b', 'c'))


class BareRingsTest(unittest.TestCase):

    def test_examples(self):
        self.assertEqual(bare_rings(THREE), [('a', 'b', 'c')])
        self.assertEqual(bare_rings(FOUR), [('a', 'c', 'b', 'd')])
        self.assertEqual(bare_rings(SIX), [('a', 'd', 'f', 'b', 'c', 'e')])
        self.assertEqual(bare_rings(PAIRS), [tuple('abc'), tuple('abd'), tuple('acd'), tuple('bcd')])
        self.assertEqual(bare_rings((('a',),)), [])
        self.assertEqual(bare_rings((('a', 'b'), ('b', 'c'))), [])
        self.assertEqual(bare_rings((('a', 'b', 'c'), ('a', 'b'), ('b', 'c'))), [])
        self.assertEqual(bare_rings((('a', 'b', 'c'),) * 6), [])

    def test_normal_form(self):
        family = (('b', 'd'), ('c', 'd'), ('a', 'c'), ('a', 'b'))
        self.assertEqual(bare_rings(family), [('a', 'b', 'd', 'c')])
        family = (('a', 'e'), ('b', 'e'), ('b', 'd'), ('c', 'd'), ('a', 'c'))
        self.assertEqual(bare_rings(family), [('a', 'c', 'd', 'b', 'e')])

    def test_shorter_first(self):
        family = (('a', 'b'), ('b', 'c'), ('c', 'd'), ('a', 'd', 'x'), ('x', 'y'), ('a', 'y'))
        self.assertEqual(bare_rings(family), [('a', 'x', 'y'), ('a', 'b', 'c', 'd')])

    def test_all_rows_of_few_names(self):
        for family in families():
            names = {name for known in family for name in known}
            if len(names) <= 6:
                self.assertEqual(bare_rings(family), reference.bare_rings_slowly(family))

    def test_many_families(self):
        lengths = set()
        most = 0
        for family in families():
            found = bare_rings(family)
            self.assertEqual(found, reference.bare_rings(family))
            self.assertEqual(bare_rings(same_again(family)), found)
            lengths |= {len(ring) for ring in found}
            most = max(most, len(found))
            for ring in found:
                self.assertIs(type(ring), tuple)
                self.assertIs(is_bare_ring(family, ring), True)
        self.assertEqual(lengths, {3, 4, 5, 6})
        self.assertGreater(most, 5)

    def test_new_lists(self):
        check_new_lists(self, bare_rings, THREE)
        check_new_lists(self, bare_rings, PAIRS)
        check_new_lists(self, bare_rings, (('a',),))

    def test_errors(self):
        for family in NO_FAMILIES:
            check_raises(self, InvalidFamily, bare_rings, family)


if __name__ == '__main__':
    unittest.main()
