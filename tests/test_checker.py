"""Point 18 and partviews/checker.py."""

import copy
import random
import unittest

from partviews.bare import bare_rings
from partviews.checker import check
from partviews.counts import count_conflict
from partviews.errors import InvalidCase, InvalidFamily, NotACertificate
from partviews.growing import growing_log, growing_ring
from partviews.joining import least_log
from partviews.rings import shortest_ring
from tests import growing_reference as growing
from tests import reference
from tests.samples import (
    GOOD_CASE, NO_CASES, NO_FAMILIES, ODD_VALUES, RING, RING_CASE, changed, check_raises, cycle_family, random_family,
    same_again, small_cases, small_growing_cases,
)
from tests.test_bare import FOUR, THREE, other_rows, right
from tests.test_logs import LOGS, NO_LOGS
from tests.test_rings import other_rings

RIGHT = ('right',)
COUNTED = (
    (('a', 'b'), ('a', 'b', 'a')), (('b', 'c'), ('b',)), (('a',), ('a',)), (('c',), ('c',)), (('a', 'c'), ('a', 'a')),
)
BEHIND = ((('a', 'b'), ('a', 'b')), (('a', 'b'), ('a',)))
GOOD_LOG = ('a', 'c', 'b', 'a')
GOOD = [
    ('log', GOOD_CASE, GOOD_LOG), ('count', COUNTED, 'a', 0, 2), ('ring', RING_CASE, RING),
    ('bare', THREE, ('a', 'b', 'c')), ('growing', BEHIND, ('a', 'b')),
]


def wrong(k):
    return ('wrong', k)


class CheckCase(unittest.TestCase):

    def check(self, certificate, result):
        before = copy.deepcopy(certificate)
        found = check(certificate)
        self.assertEqual(found, result, certificate)
        self.assertEqual([type(entry) for entry in found], [type(entry) for entry in result])
        self.assertIs(type(found), tuple)
        self.assertEqual(repr(certificate), repr(before))


class LogTest(CheckCase):

    def test_logs(self):
        self.check(('log', GOOD_CASE, GOOD_LOG), RIGHT)
        self.check(('log', GOOD_CASE, ('c', 'a', 'b', 'a')), RIGHT)
        self.check(('log', ((('a',), ()),), ()), RIGHT)
        for log in [
            ('a', 'b', 'c', 'a'), ('a', 'c', 'b'), (), ('a', 'c', 'b', 'a', 'a'), ('a', 'c', 'b', 'a', 'd'),
            ('a', 'c', 'c', 'b', 'a'), ('c', 'b', 'a', 'a'), ('x',) * 120,
        ]:
            self.check(('log', GOOD_CASE, log), wrong(1))
        self.check(('log', RING_CASE, ('a', 'b', 'c')), wrong(1))
        self.check(('log', BEHIND, ('a', 'b')), wrong(1))

    def test_no_logs(self):
        for value in NO_LOGS + [list(GOOD_LOG), ('a', 'c', 'b', 'a', 'A'), (GOOD_LOG,), ('a',) * 121]:
            self.check(('log', GOOD_CASE, value), wrong(0))
            self.check(('log', ((('a',), ()),), value), wrong(0))

    def test_any_log(self):
        for log in LOGS:
            self.check(('log', GOOD_CASE, log), wrong(1))

    def test_many_cases(self):
        for case in small_cases()[::2]:
            for log in [reference.least(case), growing.growing_log(case)]:
                if log is None:
                    continue
                fitting = all(reference.kept(log, names) == view for names, view in case)
                self.check(('log', case, log), RIGHT if fitting else wrong(1))
                for at in range(len(log)):
                    swapped = log[:at] + log[at:at + 2][::-1] + log[at + 2:]
                    fitting = all(reference.kept(swapped, names) == view for names, view in case)
                    self.check(('log', case, swapped), RIGHT if fitting else wrong(1))


class CountTest(CheckCase):

    def test_count_conflicts(self):
        for i, j in [(0, 2), (2, 0), (2, 4), (4, 2)]:
            self.check(('count', COUNTED, 'a', i, j), RIGHT)
        for i, j in [(1, 3), (1, 4), (3, 1), (4, 1)]:
            self.check(('count', COUNTED, 'c', i, j), RIGHT if 3 in (i, j) else wrong(1))
        for i, j in [(0, 4), (4, 0)]:
            self.check(('count', COUNTED, 'a', i, j), wrong(1))
        for i, j in [(0, 1), (1, 0)]:
            self.check(('count', COUNTED, 'b', i, j), wrong(1))

    def test_the_same_observer(self):
        for i in range(5):
            for name in ('a', 'b', 'c', 'x'):
                self.check(('count', COUNTED, name, i, i), wrong(0))

    def test_a_name_that_one_does_not_see(self):
        for name, i, j in [('a', 0, 1), ('a', 1, 0), ('a', 1, 2), ('b', 0, 2), ('b', 2, 1), ('c', 0, 3), ('c', 3, 2)]:
            self.check(('count', COUNTED, name, i, j), wrong(0))
        for name in ['x', '', 'A', 'aa', 'ab'] + ODD_VALUES:
            if name != 'a':
                self.check(('count', COUNTED, name, 0, 2), wrong(0))

    def test_no_numbers(self):
        for value in ODD_VALUES + [5, -1, -3, True, False, '0', '2', (0,), [2]]:
            if repr(value) not in ('0',):
                self.check(('count', COUNTED, 'a', value, 2), wrong(0))
                self.check(('count', COUNTED, 'a', 2, value), wrong(0))
        self.check(('count', COUNTED, 'a', False, 2), wrong(0))
        self.check(('count', COUNTED, 'b', 0, True), wrong(0))
        self.check(('count', COUNTED, 'a', -5, 2), wrong(0))
        self.check(('count', COUNTED, 'a', 0, -3), wrong(0))

    def test_all_triples(self):
        for case in small_cases()[::4]:
            conflicts = reference.count_conflicts(case)
            for name in reference.all_names(case):
                for i in range(len(case)):
                    for j in range(len(case)):
                        both = i != j and name in case[i][0] and name in case[j][0]
                        conflict = (name, min(i, j), max(i, j)) in conflicts
                        self.check(('count', case, name, i, j), RIGHT if conflict else wrong(1 if both else 0))


class RingTest(CheckCase):

    def test_rings(self):
        for at in range(3):
            self.check(('ring', RING_CASE, RING[at:] + RING[:at]), RIGHT)
        for value in [RING[::-1], tuple(RING), RING[:2], [], RING * 2, ('a', 'b', 'c')] + ODD_VALUES:
            self.check(('ring', RING_CASE, value), wrong(0))
        self.check(('ring', GOOD_CASE, RING), wrong(0))
        case = ((('a', 'b'), ('a',)), (('a', 'b'), ('b',)))
        self.check(('ring', case, [('a', 1, 0), ('b', 1, 1)]), wrong(0))

    def test_changed_rings(self):
        for case in small_cases()[::3]:
            if reference.count_conflicts(case) or shortest_ring(case) is None:
                continue
            for value in other_rings(case, shortest_ring(case)):
                self.check(('ring', case, value), RIGHT if reference.is_ring(case, value) else wrong(0))


class BareTest(CheckCase):

    def test_bare_rings(self):
        for row in ['abc', 'acb', 'cba', 'bca']:
            self.check(('bare', THREE, tuple(row)), RIGHT)
            self.check(('bare', THREE + (('a', 'b', 'c'),), tuple(row)), wrong(0))
        for value in ODD_VALUES + ['abc', ['a', 'b', 'c'], tuple('abca'), tuple('ab'), RING]:
            self.check(('bare', THREE, value), wrong(0))
        self.check(('bare', FOUR, tuple('acbd')), RIGHT)
        self.check(('bare', FOUR, tuple('abcd')), wrong(0))

    def test_changed_rings(self):
        rng = random.Random(141)
        for at in range(20):
            family = cycle_family(rng, 3 + at % 4)
            for ring in reference.bare_rings(family)[:2]:
                for row in other_rows(ring):
                    self.check(('bare', family, row), RIGHT if right(family, row) else wrong(0))


class GrowingTest(CheckCase):

    def test_logs(self):
        for log in [('a', 'b'), ('a', 'b', 'b'), ('a', 'b', 'a')]:
            self.check(('growing', BEHIND, log), RIGHT)
        for log in [(), ('a',), ('b', 'a'), ('a', 'a', 'b'), ('a', 'b', 'c')]:
            self.check(('growing', BEHIND, log), wrong(1))
        self.check(('growing', GOOD_CASE, GOOD_LOG), RIGHT)
        self.check(('growing', GOOD_CASE, GOOD_LOG + ('c', 'c')), RIGHT)
        self.check(('growing', RING_CASE, ('a', 'b', 'c')), wrong(1))

    def test_no_logs(self):
        for value in NO_LOGS + [['a', 'b'], ('a', 'b', 'A'), (('a', 'b'),), ('a', 'b') * 61]:
            self.check(('growing', BEHIND, value), wrong(0))
            self.check(('growing', ((('a',), ()),), value), wrong(0))

    def test_many_cases(self):
        for case in small_growing_cases()[::2]:
            log = growing.growing_log(case)
            if log is None:
                continue
            self.check(('growing', case, log), RIGHT)
            for at in range(len(log)):
                for row in [log[:at] + log[at:at + 2][::-1] + log[at + 2:], log[:at], log + log[at:]]:
                    self.check(('growing', case, row), RIGHT if growing.begins(case, row) else wrong(1))


class FormTest(CheckCase):

    def test_no_certificates(self):
        for value in ODD_VALUES + [(), [], (None,), 'log', ('log',), ('ring', RING_CASE), ('right',), ('wrong', 0)]:
            check_raises(self, NotACertificate, check, value)

    def test_number_of_entries(self):
        for certificate in GOOD:
            self.check(certificate, RIGHT)
            for size in range(len(certificate)):
                check_raises(self, NotACertificate, check, certificate[:size])
            for more in [(None,), ((),), (0, 1), (0,) * 20]:
                check_raises(self, NotACertificate, check, certificate + more)
            check_raises(self, NotACertificate, check, list(certificate))
            check_raises(self, NotACertificate, check, (certificate,))
            check_raises(self, NotACertificate, check, certificate[1:])
            check_raises(self, NotACertificate, check, certificate[::-1])

    def test_first_entry(self):
        for certificate in GOOD:
            for value in ODD_VALUES + ['', 'Log', 'LOG', 'log ', 'rings', 'counts', 'alike', ('log',), ['log']]:
                check_raises(self, NotACertificate, check, (value,) + certificate[1:])
                check_raises(self, NotACertificate, check, (value, None) + certificate[2:])
        kinds = {certificate[0] for certificate in GOOD}
        self.assertEqual(kinds, {'log', 'count', 'ring', 'bare', 'growing'})
        for kind in kinds - {'count'}:
            check_raises(self, NotACertificate, check, (kind, COUNTED, 'a', 0, 2))
        check_raises(self, NotACertificate, check, ('count', GOOD_CASE, GOOD_LOG))

    def test_form_before_case_and_family(self):
        for certificate in GOOD:
            check_raises(self, NotACertificate, check, (certificate[0], None))
            check_raises(self, NotACertificate, check, (certificate[0], None, None, None))
            check_raises(self, NotACertificate, check, (certificate[0],) + (None,) * 5)
        for kind in ('log', 'ring', 'bare', 'growing'):
            check_raises(self, NotACertificate, check, (kind,) + (None,) * 4)
        check_raises(self, NotACertificate, check, ('count', None, None))

    def test_cases_and_families(self):
        for certificate in GOOD:
            error, values = InvalidCase, NO_CASES + [THREE]
            if certificate[0] == 'bare':
                error, values = InvalidFamily, NO_FAMILIES + [GOOD_CASE]
            for value in values:
                check_raises(self, error, check, (certificate[0], value) + certificate[2:])
                check_raises(self, error, check, (certificate[0], value) + (None,) * len(certificate[2:]))

    def test_any_values(self):
        for certificate in GOOD:
            for at in range(2, len(certificate)):
                for value in ODD_VALUES:
                    entries = certificate[:at] + (value,) + certificate[at + 1:]
                    found = check(entries)
                    self.assertIn(found, [RIGHT, wrong(0), wrong(1)])
                    if repr(value) != repr(certificate[at]) and value != ():
                        self.assertEqual(found[0], 'wrong', entries)
            if certificate[0] != 'count':
                for value in changed(certificate[2]):
                    self.assertIn(check(certificate[:2] + (value,)), [RIGHT, wrong(0), wrong(1)])


class WholeTest(CheckCase):
    """What the program returns makes right certificates."""

    def test_logs_and_reasons(self):
        kinds = []
        for case in small_cases():
            if least_log(case) is not None:
                kinds.append('log')
                self.check(('log', case, least_log(case)), RIGHT)
                self.check(('growing', case, least_log(case)), RIGHT)
            elif count_conflict(case) is not None:
                kinds.append('count')
                name, i, j = count_conflict(case)
                self.check(('count', case, name, i, j), RIGHT)
                self.check(('count', case, name, j, i), RIGHT)
            else:
                kinds.append('ring')
                self.check(('ring', case, shortest_ring(case)), RIGHT)
        self.assertGreater(min(kinds.count(kind) for kind in ('log', 'count', 'ring')), 50)

    def test_growing_logs(self):
        for case in small_growing_cases():
            log = growing_log(case)
            if log is not None:
                self.check(('growing', same_again(case), log), RIGHT)
            else:
                # A growing ring is a ring only if all events of it that are seen later are seen.
                ring = growing_ring(case)
                self.check(('ring', case, ring), RIGHT if reference.is_ring(case, ring) else wrong(0))

    def test_bare_rings(self):
        rng = random.Random(142)
        many = 0
        for at in range(60):
            family = cycle_family(rng, 3 + at // 2 % 4) if at % 2 else random_family(rng, most_in_set=3)
            for ring in bare_rings(family):
                many += 1
                self.check(('bare', family, ring), RIGHT)
                self.check(('bare', family, ring[::-1]), RIGHT)
        self.assertGreater(many, 30)


if __name__ == '__main__':
    unittest.main()
