"""Points 3 and 9 and partviews/certain.py."""

import random
import unittest
from itertools import combinations

from partviews.certain import both_orders, is_before, is_settled, undecided
from partviews.errors import Impossible, InvalidCase, NotUndecided, UnknownEvent
from tests import reference
from tests.samples import (
    GOOD_CASE, NO_CASES, ODD_VALUES, RING_CASE, check_new_lists, check_raises, large_cases, possible_case,
    random_family, same_again, small_cases,
)

CONFLICT_CASE = ((('a',), ('a',)), (('a', 'b'), ('b',)))
NO_EVENTS = [value for value in ODD_VALUES if repr(value) != repr(('a', 1))] + [
    (), ('a',), ('a', 0), ('a', 3), ('a', -1), ('a', True), ('b', True), ('a', '1'), ('a', 1, 0), ('a', 1, 1), ['a', 1],
    ('d', 1), ('c', 2), ('', 1), ('A', 1), (1, 'a'), (('a', 1),), (('a',), 1), (['a'], 1), ('a', [1]), ('a', (1,)),
    ('a', None), 'a1', ('a', 10 ** 30), ('b', 2), ('a', False),
]


def small_possible_cases():
    return [case for case in small_cases() if reference.logs(case)]


def large_possible_cases():
    rng = random.Random(51)
    cases = [case for case in large_cases() if reference.least(case) is not None]
    return cases + [possible_case(rng, random_family(rng, most_in_set=4), 50) for _ in range(20)]


def orders(case):
    """All pairs (one, other) of events such that one is before the other in every log that fits."""
    found = None
    for log in reference.logs(case):
        pairs = set(combinations(reference.row_of(log), 2))
        found = pairs if found is None else found & pairs
    return found


def least_with(case, first, second):
    """The least log that fits in which the first event is before the second one: of cases of any size."""
    names = reference.all_names(case)
    reached = reference.reached(case)
    needed = {event: set() for event in reached}
    for event, others in reached.items():
        for other in others:
            needed[other].add(event)
    needed[second] = needed[second] | {first}
    counts = {name: 0 for name in names}
    done = set()
    log = []
    while len(done) < len(needed):
        ready = [
            name for name in names
            if (name, counts[name] + 1) in needed and needed[(name, counts[name] + 1)] <= done
        ]
        counts[ready[0]] += 1
        done.add((ready[0], counts[ready[0]]))
        log.append(ready[0])
    return tuple(log)


class BeforeTest(unittest.TestCase):

    def test_examples(self):
        self.assertIs(is_before(GOOD_CASE, ('c', 1), ('a', 2)), True)
        self.assertIs(is_before(GOOD_CASE, ('a', 2), ('c', 1)), False)
        self.assertIs(is_before(GOOD_CASE, ('a', 1), ('c', 1)), False)
        self.assertIs(is_before(GOOD_CASE, ('c', 1), ('a', 1)), False)
        self.assertIs(is_before(GOOD_CASE, ('c', 1), ('b', 1)), True)
        self.assertIs(is_before(GOOD_CASE, ('a', 1), ('a', 2)), True)

    def test_equal_events(self):
        for event in reference.events(GOOD_CASE):
            self.assertIs(is_before(GOOD_CASE, event, event), False)
            self.assertIs(is_before(GOOD_CASE, event, same_again(event)), False)

    def test_rows_of_events(self):
        case = ((('a', 'b'), ('b', 'a')), (('b', 'c'), ('c', 'b')), (('c', 'd'), ('d', 'c')))
        self.assertIs(is_before(case, ('d', 1), ('a', 1)), True)
        self.assertIs(is_before(case, ('a', 1), ('d', 1)), False)
        case = ((('a',), ('a', 'a', 'a')), (('b',), ('b',)))
        self.assertIs(is_before(case, ('a', 1), ('a', 3)), True)
        self.assertIs(is_before(case, ('a', 3), ('a', 1)), False)
        self.assertIs(is_before(case, ('a', 1), ('b', 1)), False)

    def test_long_rows_of_events(self):
        names = 'abcdefg'
        case = tuple((pair, pair) for pair in zip(names, names[1:]))
        self.assertIs(is_before(case, ('a', 1), ('g', 1)), True)
        self.assertIs(is_before(case, ('g', 1), ('a', 1)), False)
        # Rows from one end to the other go through several views.
        three = ('a', 'b', 'c'), ('a', 'b', 'd')
        case = tuple((names, names * 6) for names in three) + ((('c', 'd'), ('c', 'd') * 6),)
        self.assertIs(is_before(case, ('a', 1), ('d', 6)), True)
        self.assertIs(is_before(case, ('c', 1), ('d', 6)), True)
        self.assertIs(is_before(case, ('d', 6), ('c', 1)), False)
        self.assertIs(is_before(case, ('d', 1), ('c', 6)), True)

    def test_small_cases(self):
        for case in small_possible_cases():
            right = orders(case)
            for first in reference.events(case):
                for second in reference.events(case):
                    self.assertIs(is_before(case, first, second), (first, second) in right)

    def test_large_cases(self):
        rng = random.Random(52)
        for case in large_possible_cases():
            reached = reference.reached(case)
            row = sorted(reached)
            for _ in range(20 if row else 0):
                first, second = rng.choice(row), rng.choice(row)
                self.assertIs(is_before(case, first, second), second in reached[first])

    def test_unknown_events(self):
        for value in NO_EVENTS:
            for call in (is_before, both_orders):
                error = check_raises(self, UnknownEvent, call, GOOD_CASE, value, ('a', 1))
                self.check_kept(error, value)
                error = check_raises(self, UnknownEvent, call, GOOD_CASE, ('a', 1), value)
                self.check_kept(error, value)
                error = check_raises(self, UnknownEvent, call, GOOD_CASE, value, value)
                self.check_kept(error, value)
                error = check_raises(self, UnknownEvent, call, GOOD_CASE, value, ('q', 9))
                self.check_kept(error, value)
                error = check_raises(self, UnknownEvent, call, GOOD_CASE, ('q', 9), value)
                self.check_kept(error, ('q', 9))
                error = check_raises(self, UnknownEvent, call, ((('a',), ()),), value, ('a', 1))
                self.check_kept(error, value)

    def check_kept(self, error, value):
        self.assertEqual(repr(error.event), repr(value))

    def test_order_of_errors(self):
        for call in (is_before, both_orders):
            for case in NO_CASES:
                check_raises(self, InvalidCase, call, case, ('a', 1), ('b', 1))
                check_raises(self, InvalidCase, call, case, None, [])
            for case in (RING_CASE, CONFLICT_CASE):
                check_raises(self, Impossible, call, case, ('a', 1), ('b', 1))
                check_raises(self, Impossible, call, case, None, [])
                check_raises(self, Impossible, call, case, ('a', 1), ('a', 1))

    def test_all_small_impossible_cases(self):
        many = 0
        for case in small_cases():
            if not reference.logs(case):
                many += 1
                event = reference.events(case)[0]
                check_raises(self, Impossible, is_before, case, event, event)
                check_raises(self, Impossible, both_orders, case, event, event)
                check_raises(self, Impossible, undecided, case)
                check_raises(self, Impossible, is_settled, case)
        self.assertGreater(many, 40)


class UndecidedTest(unittest.TestCase):

    def test_examples(self):
        self.assertEqual(undecided(GOOD_CASE), [(('a', 1), ('c', 1))])
        self.assertEqual(undecided(((('a', 'b'), ('b', 'a')),)), [])
        self.assertEqual(undecided(((('a',), ()),)), [])
        self.assertEqual(undecided(((('b',), ('b',)), (('a',), ('a', 'a')))),
                         [(('a', 1), ('b', 1)), (('a', 2), ('b', 1))])

    def test_small_cases(self):
        for case in small_possible_cases():
            right = orders(case)
            pairs = [
                (one, other) for one, other in combinations(reference.events(case), 2)
                if (one, other) not in right and (other, one) not in right
            ]
            found = undecided(case)
            self.assertEqual(found, pairs)
            self.assertEqual({type(pair) for pair in found} | {tuple}, {tuple})
            self.assertIs(is_settled(case), len(reference.logs(case)) == 1)

    def test_large_cases(self):
        for case in large_possible_cases():
            reached = reference.reached(case)
            pairs = [
                (one, other) for one, other in combinations(sorted(reached), 2)
                if other not in reached[one] and one not in reached[other]
            ]
            self.assertEqual(undecided(case), pairs)
            self.assertIs(is_settled(case), not pairs)

    def test_most_events(self):
        case = tuple(((name,), (name,) * 20) for name in 'abcdef')
        self.assertEqual(len(undecided(case)), 15 * 400)
        self.assertIs(is_settled(case), False)

    def test_settled(self):
        self.assertIs(is_settled(GOOD_CASE), False)
        self.assertIs(is_settled(((('a',), ()),)), True)
        self.assertIs(is_settled(((('a', 'b'), ('b', 'a', 'b')),)), True)
        self.assertIs(is_settled(((('a',), ('a',)), (('b',), ()))), True)
        self.assertIs(is_settled(((('a',), ('a',)), (('b',), ('b',)))), False)
        self.assertIs(is_settled(((('a', 'b'), ('a', 'b')), (('b', 'c'), ('b', 'c')))), True)
        self.assertIs(is_settled(((('a', 'b'), ('a', 'b') * 10),) * 6), True)
        self.assertIs(is_settled(tuple(((name,), (name,) * 20) for name in 'abcdef')), False)

    def test_new_lists(self):
        check_new_lists(self, undecided, GOOD_CASE)
        check_new_lists(self, undecided, ((('a',), ()),))

    def test_errors(self):
        for call in (undecided, is_settled):
            for case in NO_CASES:
                check_raises(self, InvalidCase, call, case)
            for case in (RING_CASE, CONFLICT_CASE):
                check_raises(self, Impossible, call, case)


class BothOrdersTest(unittest.TestCase):

    def test_examples(self):
        one, other = ('a', 'c', 'b', 'a'), ('c', 'a', 'b', 'a')
        self.assertEqual(both_orders(GOOD_CASE, ('c', 1), ('a', 1)), (other, one))
        self.assertEqual(both_orders(GOOD_CASE, ('a', 1), ('c', 1)), (one, other))

    def test_small_cases(self):
        for case in small_possible_cases():
            right = orders(case)
            rows = [(log, reference.row_of(log)) for log in reference.logs(case)]
            for first in reference.events(case)[:6]:
                for second in reference.events(case)[-6:]:
                    if first == second or (first, second) in right or (second, first) in right:
                        check_raises(self, NotUndecided, both_orders, case, first, second)
                        continue
                    before = [log for log, row in rows if row.index(first) < row.index(second)]
                    behind = [log for log, row in rows if row.index(first) > row.index(second)]
                    self.assertEqual(both_orders(case, first, second), (before[0], behind[0]))

    def test_large_cases(self):
        rng = random.Random(53)
        for case in large_possible_cases():
            reached = reference.reached(case)
            row = sorted(reached)
            for _ in range(8 if row else 0):
                first, second = rng.choice(row), rng.choice(row)
                if first == second or second in reached[first] or first in reached[second]:
                    check_raises(self, NotUndecided, both_orders, case, first, second)
                else:
                    found = both_orders(case, first, second)
                    right = (least_with(case, first, second), least_with(case, second, first))
                    self.assertEqual(found, right)
                    self.assertEqual([type(part) for part in (found,) + found], [tuple] * 3)

    def test_more_than_twelve_events(self):
        case = ((('a',), ('a',) * 20), (('b',), ('b',) * 20))
        found = both_orders(case, ('a', 20), ('b', 1))
        self.assertEqual(found, (('a',) * 20 + ('b',) * 20, ('a',) * 19 + ('b', 'a') + ('b',) * 19))
        found = both_orders(case, ('a', 1), ('b', 20))
        self.assertEqual(found, (('a',) * 20 + ('b',) * 20, ('b',) * 20 + ('a',) * 20))

    def test_not_undecided(self):
        check_raises(self, NotUndecided, both_orders, GOOD_CASE, ('a', 1), ('a', 1))
        check_raises(self, NotUndecided, both_orders, GOOD_CASE, ('a', 1), ('a', 2))
        check_raises(self, NotUndecided, both_orders, GOOD_CASE, ('a', 2), ('a', 1))
        check_raises(self, NotUndecided, both_orders, GOOD_CASE, ('c', 1), ('a', 2))
        check_raises(self, NotUndecided, both_orders, GOOD_CASE, ('a', 2), ('c', 1))


if __name__ == '__main__':
    unittest.main()
