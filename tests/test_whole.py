"""Points 3, 7, 10 and 11 over the whole program: how its answers go together."""

import unittest
from itertools import combinations

from partviews.bare import bare_rings, is_bare_ring
from partviews.certain import both_orders, is_before, is_settled, undecided
from partviews.conflicts import fits_every, minimal_conflicts
from partviews.counts import count_conflict, events
from partviews.errors import CountConflict, TooLong, TooMany
from partviews.joining import all_logs, count_logs, is_possible, least_log
from partviews.logs import fits, restrict
from partviews.rings import is_ring, shortest_ring
from tests import reference
from tests.samples import cases_with_rings, large_cases, random_cases, small_cases


def all_cases():
    return small_cases() + large_cases() + random_cases(71, 60, 25) + cases_with_rings(72, 60, 10)


class ReasonTest(unittest.TestCase):

    def test_exactly_one_exists(self):
        kinds = {'log': 0, 'count': 0, 'ring': 0}
        for case in all_cases():
            log, conflict = least_log(case), count_conflict(case)
            ring = None if conflict else shortest_ring(case)
            found = [log is not None, conflict is not None, ring is not None]
            self.assertEqual(found.count(True), 1, case)
            kinds[['log', 'count', 'ring'][found.index(True)]] += 1
            self.assertIs(is_possible(case), log is not None)
            if log is not None:
                self.assertIs(fits(case, log), True)
                for names, view in case:
                    self.assertEqual(restrict(log, names), view)
            if ring is not None:
                self.assertIs(is_ring(case, ring), True)
            if conflict is not None:
                self.assertRaises(CountConflict, shortest_ring, case)
        self.assertGreater(min(kinds.values()), 60)

    def test_shortest_rings_and_bare_rings(self):
        lengths = []
        for case in all_cases():
            ring = None if count_conflict(case) else shortest_ring(case)
            if ring is None or len(ring) < 3:
                continue
            lengths.append(len(ring))
            names = tuple(name for name, k, i in ring)
            family = tuple(known for known, view in case)
            self.assertEqual(len(set(names)), len(names))
            self.assertEqual(len({i for name, k, i in ring}), len(ring))
            self.assertIs(is_bare_ring(family, names), True)
            self.assertIn(set(names), [set(other) for other in bare_rings(family)])
        self.assertEqual(set(lengths), {3, 4, 5, 6})

    def test_views_of_a_shortest_ring(self):
        for case in all_cases():
            ring = None if count_conflict(case) else shortest_ring(case)
            if ring is None:
                continue
            group = sorted({i for name, k, i in ring})
            self.assertEqual(len(group), len(ring))
            part = tuple(case[i] for i in group)
            self.assertIs(is_possible(part), False)
            self.assertIsNone(least_log(part))
            for size in range(1, len(group)):
                self.assertIs(fits_every(part, size), True)
                for fewer in combinations(part, size):
                    self.assertIs(is_possible(fewer), True)

    def test_smallest_conflicts(self):
        for case in all_cases():
            found = minimal_conflicts(case)
            self.assertIs(not found, is_possible(case))
            if not found:
                continue
            if count_conflict(case):
                self.assertEqual(len(found[0]), 2)
                self.assertFalse(fits_every(case, 2))
            else:
                self.assertEqual(len(found[0]), len(shortest_ring(case)))
                self.assertIs(fits_every(case, len(found[0])), False)
                self.assertIs(fits_every(case, len(found[0]) - 1), True)


class OrderTest(unittest.TestCase):

    def test_certain_orders_and_all_logs(self):
        many = 0
        for case in small_cases() + random_cases(73, 80, 12):
            if not is_possible(case):
                continue
            try:
                found = all_logs(case)
            except (TooLong, TooMany):
                continue
            many += 1
            rows = [reference.row_of(log) for log in found]
            pairs = undecided(case)
            self.assertEqual(found[0], least_log(case))
            self.assertEqual(len(found), count_logs(case))
            self.assertEqual(found, sorted(set(found)))
            self.assertIs(is_settled(case), len(found) == 1)
            for one, other in combinations(events(case), 2):
                before = [log for log, row in zip(found, rows) if row.index(one) < row.index(other)]
                behind = [log for log, row in zip(found, rows) if row.index(one) > row.index(other)]
                self.assertIs(is_before(case, one, other), not behind)
                self.assertIs(is_before(case, other, one), not before)
                self.assertIs((one, other) in pairs, bool(before and behind))
                if before and behind:
                    self.assertEqual(both_orders(case, one, other), (before[0], behind[0]))
        self.assertGreater(many, 150)

    def test_orders_of_long_cases(self):
        for case in large_cases()[:50]:
            if not is_possible(case):
                continue
            self.assertIs(is_settled(case), not undecided(case))
            for one, other in undecided(case)[:10]:
                self.assertIs(is_before(case, one, other), False)
                self.assertIs(is_before(case, other, one), False)
                first, second = both_orders(case, one, other)
                self.assertIs(fits(case, first) and fits(case, second), True)
                self.assertIn(least_log(case), (first, second))
                row = reference.row_of(first)
                self.assertLess(row.index(one), row.index(other))
                row = reference.row_of(second)
                self.assertGreater(row.index(one), row.index(other))


if __name__ == '__main__':
    unittest.main()
