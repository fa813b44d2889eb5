"""Points 4 and 5 and partviews/logs.py."""

import copy
import unittest

from partviews.errors import InvalidCase, InvalidLog, InvalidNames
from partviews.logs import fits, is_case, is_family, is_log, is_name_set, restrict
from tests import reference
from tests.samples import (
    GOOD_CASE, NO_CASES, NO_FAMILIES, ODD_VALUES, RING_CASE, changed, check_raises, random_cases, same_again,
    small_cases,
)

LETTERS = 'abcdefghijklmnopqrstuvwxyz'
NAME_SETS = [
    ('a',), ('z',), ('a', 'b'), ('a', 'ab', 'b'), ('aa', 'b'), ('abcdefgh',), ('zzzzzzzz',), ('az', 'b', 'za'),
    ('a', 'b', 'c', 'd', 'e', 'f'), ('name', 'nameb', 'namec'), ('y', 'z'),
] + [(letter,) for letter in LETTERS]
NO_NAMES = [
    '', 'A', 'aB', 'Z', '1', 'a1', ' a', 'a ', 'a b', 'a\n', '\n', 'a\t', '_', 'a_b', 'a-b', '`', '{', '@', '[', '.',
    'abcdefghi', 'z' * 9, 'a' * 100, None, True, False, 0, 1, ('a',), ['a'], (), [],
]
NO_NAME_SETS = ODD_VALUES + [(name,) for name in NO_NAMES] + [('a', name) for name in NO_NAMES] + [
    (), ('b', 'a'), ('a', 'a'), ('a', 'b', 'b'), ('a', 'a', 'b'), ('a', 'b', 'ab'), ('ab', 'a'), ('a', 'c', 'b'),
    ('b', 'a', 'c'), ('a', 'b', 'c', 'd', 'e', 'f', 'g'), ('a', 'b', 'c', 'd', 'e', 'f', 'f'), ['a', 'b'], 'ab', 'a',
    ('a', 'b', 'c', 'd', 'f', 'e'),
]
FAMILIES = [
    (('a',),), (('a',), ('a',)), (('a', 'b'), ('b', 'c'), ('a', 'c')), (('b',), ('a',)), (('a',),) * 6,
    (('a', 'b', 'c', 'd', 'e', 'f'), ('e', 'f', 'g', 'h')), (('a', 'b', 'c', 'd', 'e', 'f'),) * 6,
    (('g', 'h'), ('a', 'b', 'c', 'd', 'e', 'f')), (('a', 'b', 'c', 'd'), ('e', 'f', 'g', 'h')),
]
LOGS = [
    (), ('a',), ('a', 'a'), ('b', 'a', 'b'), ('abcdefgh', 'z'), ('a',) * 119, ('a',) * 120, ('a', 'b') * 60,
    tuple(LETTERS),
]
NO_LOGS = ODD_VALUES + [(name,) for name in NO_NAMES] + [('b', name, 'a') for name in NO_NAMES] + [
    [], ['a'], '', 'a', 'ab', ('a',) * 121, ('a',) * 240, ['a'] * 3, (('a', 'b'),),
]
CASES = [
    GOOD_CASE, RING_CASE, ((('a',), ()),), ((('a',), ('a',) * 20),), ((('a',), ()),) * 6,
    ((('a', 'b', 'c', 'd', 'e', 'f'), ('f', 'a') * 10),) * 6,
    ((('a', 'b'), ('b', 'b')), (('c', 'd'), ())),
    ((('a', 'b', 'c', 'd', 'e', 'f'), ()), (('e', 'f', 'g', 'h'), ('h', 'e'))),
    ((('a',), ('a',)), (('a', 'b'), ('b',))),
]


class KindTest(unittest.TestCase):

    def check(self, call, good, bad):
        for value in good:
            self.assertIs(call(value), True, value)
            self.assertIs(call(same_again(value)), True, value)
        for value in bad:
            before = copy.deepcopy(value)
            self.assertIs(call(value), False, value)
            self.assertEqual(repr(value), repr(before))

    def test_name_sets(self):
        self.check(is_name_set, NAME_SETS, NO_NAME_SETS)

    def test_name_sets_in_every_order_and_changed(self):
        for names in NAME_SETS:
            for value in changed(names):
                plain = type(value) is tuple and value and all(type(name) is str for name in value)
                right = plain and len(value) < 7 and all(name.islower() for name in value)
                right = right and list(value) == sorted(set(value))
                self.assertIs(is_name_set(value), bool(right), value)

    def test_families(self):
        self.check(is_family, FAMILIES, NO_FAMILIES)

    def test_family_of_bad_name_sets(self):
        for value in NO_NAME_SETS:
            self.assertIs(is_family((value,)), False, value)
            self.assertIs(is_family((('a',), value)), False, value)
            self.assertIs(is_family((value, ('a',))), False, value)

    def test_families_of_eight_and_nine_names(self):
        eight = (('a', 'b', 'c'), ('d', 'e', 'f'), ('a', 'g', 'h'))
        self.assertIs(is_family(eight), True)
        self.assertIs(is_family(eight + (('h', 'i'),)), False)
        self.assertIs(is_family((('i',),) + eight), False)
        self.assertIs(is_family(eight + (('h',), ('a', 'b', 'c', 'd', 'e', 'f'), ('g',))), True)
        self.assertIs(is_family(eight + (('h',), ('a',), ('g',), ('b',))), False)

    def test_family_with_a_list(self):
        for family in FAMILIES:
            self.assertIs(is_family(list(family)), False)
            self.assertIs(is_family(tuple(list(names) for names in family)), False)
            self.assertIs(is_family(family[:-1] + (list(family[-1]),)), False)
            self.assertIs(is_family((family,)), False)

    def test_logs(self):
        self.check(is_log, LOGS, NO_LOGS)

    def test_cases(self):
        self.check(is_case, CASES + small_cases(), NO_CASES)

    def test_case_of_bad_families(self):
        for family in NO_FAMILIES:
            if isinstance(family, tuple):
                self.assertIs(is_case(tuple((names, ()) for names in family)), False, family)
        for value in NO_NAME_SETS:
            self.assertIs(is_case(((value, ()),)), False, value)
            self.assertIs(is_case(((('a',), ('a',)), (value, ()))), False, value)

    def test_case_of_bad_views(self):
        for name in NO_NAMES + ['b', 'aa']:
            self.assertIs(is_case(((('a',), (name,)),)), False, name)
            self.assertIs(is_case(((('a',), ()), (('a',), ('a', name)))), False, name)
        for value in ODD_VALUES + [[], ['a'], 'a', '']:
            self.assertIs(is_case(((('a',), value),)), False, value)

    def test_name_that_the_observer_does_not_see(self):
        self.assertIs(is_case(((('a', 'b'), ('a', 'c')), (('c',), ('c',)))), False)
        self.assertIs(is_case(((('a', 'b'), ('a', 'b')), (('c',), ('a',)))), False)

    def test_case_with_a_part_changed(self):
        for case in (GOOD_CASE, RING_CASE):
            for at, (names, view) in enumerate(case):
                for value in changed(view):
                    right = type(value) is tuple and all(name in names for name in value)
                    self.assertIs(is_case(case[:at] + ((names, value),) + case[at + 1:]), right, value)
                for value in changed(names):
                    right = is_name_set(value) and all(name in value for name in view)
                    self.assertIs(is_case(case[:at] + ((value, view),) + case[at + 1:]), right, value)
                self.assertIs(is_case(case[:at] + ([names, view],) + case[at + 1:]), False)
                self.assertIs(is_case(case[:at] + ((names,),) + case[at + 1:]), False)
                self.assertIs(is_case(case[:at] + ((names, view, view),) + case[at + 1:]), False)
                self.assertIs(is_case(case[:at] + (names,) + case[at + 1:]), False)
            self.assertIs(is_case(case[::-1]), True)
            self.assertIs(is_case(case[1:]), True)
            self.assertIs(is_case(case + case[:1]), True)
            self.assertIs(is_case(list(case)), False)

    def test_limits_of_a_case(self):
        seen = (('a', 'b'), ('a',) * 20)
        self.assertIs(is_case((seen,) * 6), True)
        self.assertIs(is_case((seen,) * 7), False)
        self.assertIs(is_case((seen, (('a', 'b'), ('a', 'b') * 10 + ('a',)))), False)
        self.assertIs(is_case(((('a', 'b'), ('a',) * 21), seen)), False)


class RestrictTest(unittest.TestCase):

    def test_restriction(self):
        self.assertEqual(restrict(('a', 'c', 'b', 'a'), ('a', 'b')), ('a', 'b', 'a'))
        self.assertEqual(restrict((), ('a',)), ())
        self.assertEqual(restrict(('b', 'c'), ('a',)), ())
        self.assertEqual(restrict(('b', 'a', 'b', 'b', 'a'), ('b',)), ('b', 'b', 'b'))
        self.assertEqual(restrict(('b', 'a', 'b'), ('a', 'b')), ('b', 'a', 'b'))
        self.assertEqual(restrict(('ab', 'a', 'b', 'abc'), ('ab', 'abc')), ('ab', 'abc'))
        self.assertEqual(restrict(('a', 'b') * 60, ('b', 'c')), ('b',) * 60)
        self.assertEqual(restrict(tuple('fedcba'), tuple('abcdef')), tuple('fedcba'))

    def test_all_restrictions(self):
        for log in LOGS:
            for names in NAME_SETS:
                self.assertEqual(restrict(log, names), reference.kept(log, names))

    def test_errors(self):
        for log in NO_LOGS:
            check_raises(self, InvalidLog, restrict, log, ('a',))
            check_raises(self, InvalidLog, restrict, log, ('b', 'a'))
            check_raises(self, InvalidLog, restrict, log, None)
        for names in NO_NAME_SETS:
            check_raises(self, InvalidNames, restrict, ('a', 'b'), names)
            check_raises(self, InvalidNames, restrict, (), names)
            check_raises(self, InvalidLog, restrict, ['a'], names)


class FitsTest(unittest.TestCase):

    def test_fits(self):
        self.assertIs(fits(GOOD_CASE, ('a', 'c', 'b', 'a')), True)
        self.assertIs(fits(GOOD_CASE, ('c', 'a', 'b', 'a')), True)
        for log in [(), ('a', 'b', 'a'), ('a', 'b', 'a', 'c'), ('a', 'b', 'c', 'a'), ('a', 'c', 'b', 'a', 'a'),
                    ('a', 'c', 'b'), ('c', 'b', 'a'), ('a', 'c', 'c', 'b', 'a')]:
            self.assertIs(fits(GOOD_CASE, log), False, log)

    def test_names_outside_of_the_family(self):
        self.assertIs(fits(GOOD_CASE, ('a', 'c', 'b', 'a', 'd')), False)
        self.assertIs(fits(GOOD_CASE, ('d', 'a', 'c', 'b', 'a')), False)
        self.assertIs(fits(GOOD_CASE, ('a', 'c', 'ab', 'b', 'a')), False)
        self.assertIs(fits(((('a',), ()),), ('b',)), False)
        self.assertIs(fits(((('a',), ()),), ()), True)
        self.assertIs(fits(((('ab',), ()),), ('a',)), False)

    def test_each_view_counts(self):
        for at in range(3):
            case = [(('a', 'b'), ('a', 'b'))] * 3
            self.assertIs(fits(tuple(case), ('a', 'b')), True)
            case[at] = (('a', 'b'), ('b', 'a'))
            self.assertIs(fits(tuple(case), ('a', 'b')), False)
            self.assertIs(fits(tuple(case), ('b', 'a')), False)
            case[at] = (('a', 'b'), ('a',))
            self.assertIs(fits(tuple(case), ('a', 'b')), False)
            self.assertIs(fits(tuple(case), ('a',)), False)

    def test_logs_of_small_cases(self):
        for case in small_cases():
            right = reference.logs(case)
            for log in right[:3] + [()] + right[-1:]:
                self.assertIs(fits(case, log), log in right)
                for other in changed(log):
                    if is_log(other):
                        self.assertIs(fits(case, other), other in right)

    def test_large_cases(self):
        for case in random_cases(13, 40, 100):
            log = reference.least(case)
            if log is not None:
                self.assertIs(fits(case, log), True)
                self.assertIs(fits(case, log + ('a',)), False)
                self.assertIs(fits(case, log[1:]), log == ())
        case = tuple(((name,), (name,) * 20) for name in 'abcdef')
        self.assertIs(fits(case, tuple('abcdef') * 20), True)
        self.assertIs(fits(case, tuple('abcdef') * 19 + tuple('abcdea')), False)

    def test_errors(self):
        for case in NO_CASES:
            check_raises(self, InvalidCase, fits, case, ('a',))
            check_raises(self, InvalidCase, fits, case, ['a'])
        for log in NO_LOGS:
            check_raises(self, InvalidLog, fits, GOOD_CASE, log)
            check_raises(self, InvalidLog, fits, ((('a',), ()),), log)
            check_raises(self, InvalidCase, fits, (), log)


if __name__ == '__main__':
    unittest.main()
