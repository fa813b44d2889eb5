"""Points 15 and 16 and partviews/growing.py."""

import copy
import random
import unittest

from partviews.errors import InvalidCase, InvalidLog
from partviews.growing import begins, growing_log, growing_ring, is_growing_ring, missing
from partviews.logs import fits
from tests import growing_reference as growing
from tests import reference
from tests.samples import (
    GOOD_CASE, NO_CASES, ODD_VALUES, RING, RING_CASE, check_new_lists, check_raises, full_growing_cases,
    growing_cases, large_growing_cases, other_runs, random_cases, same_again, small_growing_cases,
)
from tests.test_logs import NO_LOGS
from tests.test_rings import other_rings

BEHIND = ((('a', 'b'), ('a', 'b')), (('a', 'b'), ('a',)))
CROSSED = ((('a', 'b'), ('a',)), (('a', 'b'), ('b',)))
CROSSED_RING = [('a', 1, 0), ('b', 1, 1)]
THREE_WAIT = ((('a', 'b'), ('a',)), (('b', 'c'), ('b',)), (('a', 'c'), ('c',)))
ABC = ('a', 'b', 'c')


def all_growing_cases():
    return small_growing_cases() + large_growing_cases() + full_growing_cases() + random_cases(101, 60, 25)


class BeginsTest(unittest.TestCase):

    def check(self, case, log, right):
        before = copy.deepcopy((case, log))
        self.assertIs(begins(case, log), right, (case, log))
        self.assertEqual(repr((case, log)), repr(before))

    def test_one_view(self):
        case = ((('a', 'b'), ('a', 'b')),)
        for log in [('a', 'b'), ('a', 'b', 'a'), ('a', 'b', 'b'), ('a', 'b') * 60]:
            self.check(case, log, True)
        for log in [(), ('a',), ('b',), ('b', 'a'), ('a', 'a', 'b'), ('b', 'a', 'b'), ('a',) * 120]:
            self.check(case, log, False)

    def test_empty_views(self):
        case = ((('a', 'b'), ()), (('b', 'c'), ()))
        for log in [(), ('a',), ('c', 'c', 'b'), ('b',) * 120]:
            self.check(case, log, True)
        self.check(case, ('d',), False)

    def test_other_names_in_between(self):
        self.check(GOOD_CASE, ('a', 'c', 'b', 'a'), True)
        self.check(GOOD_CASE, ('c', 'a', 'b', 'a', 'c', 'b'), True)
        self.check(GOOD_CASE, ('c', 'a', 'b', 'c', 'a'), True)
        self.check(GOOD_CASE, ('c', 'a', 'b'), False)
        self.check(GOOD_CASE, ('a', 'b', 'c', 'a'), False)
        self.check(GOOD_CASE, ('c', 'c', 'a', 'b', 'a'), False)
        self.check(BEHIND, ('a', 'b', 'b'), True)
        self.check(BEHIND, ('a', 'b'), True)
        self.check(BEHIND, ('a', 'a', 'b'), False)
        self.check(CROSSED, ('a', 'b'), False)
        self.check(CROSSED, ('b', 'a'), False)

    def test_names_of_the_family_alone(self):
        self.check(GOOD_CASE, ('a', 'c', 'b', 'a', 'd'), False)
        self.check(GOOD_CASE, ('x', 'a', 'c', 'b', 'a'), False)
        self.check(GOOD_CASE, ('a', 'c', 'b', 'a', 'ab'), False)
        self.check(((('a',), ()),), ('b',), False)

    def test_many_cases(self):
        rng = random.Random(102)
        found = []
        for case in all_growing_cases():
            names = growing.names_of(growing.family_of(case))
            logs = [growing.growing_log(case), tuple(rng.choice(names) for _ in range(rng.randint(0, 12)))]
            for log in [log for log in logs if log is not None]:
                at = rng.randint(0, len(log))
                for row in [
                    log, log + (rng.choice(names),), log[:at] + log[at + 1:], log + ('q',), log[:-1],
                    log[:at] + (rng.choice(names),) + log[at:], log[:at] + log[at:at + 2][::-1] + log[at + 2:],
                ]:
                    if len(row) <= 120:
                        found.append(growing.begins(case, row))
                        self.check(case, row, found[-1])
        self.assertGreater(min(found.count(True), found.count(False)), 500)

    def test_errors(self):
        for case in NO_CASES:
            check_raises(self, InvalidCase, begins, case, ('a',))
            check_raises(self, InvalidCase, begins, case, None)
            check_raises(self, InvalidCase, begins, case, ['a'])
        for log in NO_LOGS:
            check_raises(self, InvalidLog, begins, GOOD_CASE, log)
        check_raises(self, InvalidLog, begins, GOOD_CASE, ['a', 'c', 'b', 'a'])


class GrowingLogTest(unittest.TestCase):

    def test_examples(self):
        self.assertEqual(growing_log(BEHIND), ('a', 'b'))
        self.assertIsNone(growing_log(CROSSED))
        self.assertEqual(growing_log(GOOD_CASE), ('a', 'c', 'b', 'a'))
        self.assertIsNone(growing_log(RING_CASE))
        self.assertIsNone(growing_log(THREE_WAIT))

    def test_nothing_seen(self):
        self.assertEqual(growing_log(((('a', 'b'), ()),)), ())
        self.assertEqual(growing_log(((('a',), ()),) * 6), ())
        self.assertEqual(growing_log(((('a',), ()), (('a', 'b'), ('b', 'b')))), ('b', 'b'))

    def test_missed_events_come_behind_the_view(self):
        case = ((('a', 'b'), ('b',)), (('a',), ('a',)))
        self.assertEqual(growing_log(case), ('b', 'a'))
        case = ((('a', 'b'), ('b', 'b')), (('a', 'c'), ('a', 'c', 'a')), (('c', 'd'), ('d',)))
        self.assertEqual(growing_log(case), ('b', 'b', 'a', 'd', 'c', 'a'))
        case = ((('a', 'b', 'c'), ('c', 'a')), (('a', 'b'), ('b',)))
        self.assertIsNone(growing_log(case))
        case = ((('a', 'b', 'c'), ('c', 'a')), (('a', 'b'), ('a', 'b')))
        self.assertEqual(growing_log(case), ('c', 'a', 'b'))

    def test_observer_who_has_seen_a_name_more_often(self):
        case = ((('a', 'b'), ('a', 'b', 'a')), (('a', 'b'), ('a', 'b', 'a', 'a', 'b')))
        self.assertEqual(growing_log(case), ('a', 'b', 'a', 'a', 'b'))
        case = ((('a', 'b'), ('a', 'b', 'a')), (('a', 'b'), ('a', 'b', 'b')))
        self.assertIsNone(growing_log(case))
        case = ((('a', 'b', 'c'), ('a', 'b')), (('b', 'c'), ('b', 'b', 'c')), (('a', 'c'), ('c', 'a')))
        self.assertIsNone(growing_log(case))
        case = ((('a', 'b', 'c'), ('a', 'b')), (('b', 'c'), ('b', 'b', 'c')), (('a', 'c'), ('a', 'c')))
        self.assertEqual(growing_log(case), ('a', 'b', 'b', 'c'))

    def test_all_logs_of_small_cases(self):
        found = []
        for case in small_growing_cases():
            logs = growing.growing_logs(case)
            log = growing_log(case)
            found.append(len(logs))
            self.assertEqual(log, logs[0] if logs else None, case)
            self.assertEqual(growing_log(same_again(case)), log)
        self.assertGreater(found.count(0), 50)
        self.assertGreater(len([many for many in found if many > 1]), 60)

    def test_many_cases(self):
        lengths = []
        for case in all_growing_cases():
            log = growing_log(case)
            self.assertEqual(log, growing.growing_log(case), case)
            if log is not None:
                self.assertIs(type(log), tuple)
                self.assertEqual(sorted(reference.row_of(log)), reference.events(case))
                self.assertIs(begins(case, log), True)
                lengths.append(len(log))
        self.assertEqual(max(lengths), 120)

    def test_any_log_at_all(self):
        # If a log with further events begins with the views, then there is a growing log.
        rng = random.Random(103)
        for case in growing_cases(104, 200, 5, most_observers=3, most_names=3):
            names = growing.names_of(growing.family_of(case))
            logs = [tuple(rng.choice(names) for _ in range(rng.randint(0, 9))) for _ in range(60)]
            if any(begins(case, log) for log in logs):
                self.assertIsNotNone(growing_log(case))

    def test_errors(self):
        for case in NO_CASES:
            check_raises(self, InvalidCase, growing_log, case)


class IsGrowingRingTest(unittest.TestCase):

    def check(self, case, value, right):
        before = copy.deepcopy(value)
        self.assertIs(is_growing_ring(case, value), right, (case, value))
        self.assertEqual(repr(value), repr(before))

    def test_turned(self):
        self.check(CROSSED, CROSSED_RING, True)
        self.check(CROSSED, CROSSED_RING[::-1], True)
        for case in (RING_CASE, THREE_WAIT):
            for at in range(3):
                self.check(case, RING[at:] + RING[:at], True)
            self.check(case, RING[::-1], False)

    def test_seen_later_or_not_yet(self):
        self.check(((('a', 'b'), ('a', 'b')), (('a', 'b'), ('b',))), CROSSED_RING, True)
        self.check(((('a', 'b'), ('a',)), (('a', 'b'), ('b', 'a'))), CROSSED_RING, True)
        self.check(((('a', 'b'), ('a', 'b')), (('a', 'b'), ('b', 'a'))), CROSSED_RING, True)
        self.check(((('a', 'b'), ('b', 'a')), (('a', 'b'), ('b',))), CROSSED_RING, False)
        self.check(((('a', 'b'), ()), (('a', 'b'), ('b', 'a'))), CROSSED_RING, False)

    def test_names_that_the_observer_does_not_see(self):
        self.check(((('a',), ('a',)), (('a', 'b'), ('b',))), CROSSED_RING, False)
        self.check(((('a', 'b'), ('a',)), (('b',), ('b',))), CROSSED_RING, False)
        self.check(((('a', 'b', 'c'), ('a',)), (('b', 'c'), ('b',)), (('c',), ('c',))), RING, False)
        self.check(((('a', 'b', 'c'), ('a',)), (('b', 'c'), ('b',)), (('a', 'c'), ('c',))), RING, True)

    def test_later_events_of_a_name(self):
        case = ((('a', 'b'), ('a', 'a')), (('a', 'b'), ('b', 'a')))
        self.check(case, CROSSED_RING, True)
        self.check(case, [('a', 2, 0), ('b', 1, 1)], True)
        self.check(case, [('a', 1, 0), ('a', 2, 0), ('b', 1, 1)], True)
        self.check(case, [('a', 1, 1), ('a', 2, 0), ('b', 1, 1)], True)
        self.check(case, [('a', 2, 1), ('b', 1, 1)], False)
        self.check(case, [('a', 2, 0), ('a', 1, 0), ('b', 1, 1)], False)
        self.check(case, [('a', 3, 0), ('b', 1, 1)], False)
        self.check(case, [('a', 1, 0), ('b', 2, 1)], False)
        self.check(case, [('a', 1, 0), ('b', 2, 0), ('b', 1, 1)], False)

    def test_short_and_repeated(self):
        self.check(CROSSED, [], False)
        self.check(CROSSED, CROSSED_RING[:1], False)
        self.check(CROSSED, CROSSED_RING[:1] * 2, False)
        self.check(CROSSED, CROSSED_RING * 2, False)
        self.check(CROSSED, CROSSED_RING + CROSSED_RING[:1], False)
        self.check(CROSSED + CROSSED, CROSSED_RING + [('a', 1, 2), ('b', 1, 3)], False)
        self.check(CROSSED + CROSSED, [('a', 1, 2), ('b', 1, 1)], True)
        self.check(((('a',), ('a', 'a')), (('a',), ('a',))), [('a', 1, 0), ('a', 2, 0)], False)

    def test_kinds(self):
        self.check(CROSSED, tuple(CROSSED_RING), False)
        self.check(CROSSED, [list(step) for step in CROSSED_RING], False)
        self.check(CROSSED, [('a', True, 0), ('b', 1, 1)], False)
        self.check(CROSSED, [('a', 1, False), ('b', 1, 1)], False)
        self.check(CROSSED, [('a', 1, 0), ('b', 1, True)], False)
        self.check(CROSSED, [('a', 1, 0), ('b', 1, -1)], False)
        self.check(CROSSED, [('a', 1, 0), ('b', 1, 2)], False)
        self.check(CROSSED, [('a', 1, 0), ('b', 0, 1)], False)
        self.check(CROSSED, [('a', 1, 0), ('b', 1)], False)
        self.check(CROSSED, [('a', 1, 0, 0), ('b', 1, 1)], False)
        self.check(CROSSED, ['a10', 'b11'], False)

    def test_any_value(self):
        for value in ODD_VALUES:
            self.check(THREE_WAIT, value, False)
            self.check(THREE_WAIT, [value], False)
            self.check(THREE_WAIT, (value, value), False)
            for at in range(3):
                self.check(THREE_WAIT, RING[:at] + [value] + RING[at + 1:], False)
                self.check(THREE_WAIT, RING[:at] + [value] + RING[at:], False)
                name, k, i = RING[at]
                for entry in [(value, k, i), (name, value, i), (name, k, value), (name, k, i, value)]:
                    changed = RING[:at] + [entry] + RING[at + 1:]
                    self.check(THREE_WAIT, changed, growing.is_growing_ring(THREE_WAIT, changed))

    def test_changed_rings_of_many_cases(self):
        rings = 0
        for case in small_growing_cases() + large_growing_cases()[:60]:
            ring = growing_ring(case)
            if ring is None:
                row = reference.events(case)[:6]
                for i in range(len(case)):
                    self.check(case, [(name, k, i) for name, k in row], False)
                continue
            rings += 1
            direct = growing.growing_edges(case)
            for other in other_rings(case, ring):
                self.check(case, other, growing.is_growing_ring(case, other, direct))
        self.assertGreater(rings, 90)

    def test_walks(self):
        rng = random.Random(105)
        found = []
        for case in small_growing_cases():
            direct = growing.growing_edges(case)
            if not direct:
                continue
            for _ in range(4):
                row = [rng.choice(sorted(direct))]
                for _ in range(rng.randint(1, 5)):
                    row += rng.sample(sorted(direct[row[-1]]), min(1, len(direct[row[-1]])))
                ring = []
                for at, (name, k) in enumerate(row):
                    seers = direct[(name, k)].get(row[(at + 1) % len(row)]) or range(len(case))
                    ring.append((name, k, rng.choice(list(seers))))
                found.append(growing.is_growing_ring(case, ring))
                self.check(case, ring, found[-1])
        self.assertGreater(min(found.count(True), found.count(False)), 40)

    def test_errors(self):
        for case in NO_CASES:
            check_raises(self, InvalidCase, is_growing_ring, case, RING)
            check_raises(self, InvalidCase, is_growing_ring, case, None)
        check_raises(self, InvalidCase, is_growing_ring, list(RING_CASE), RING)


class GrowingRingTest(unittest.TestCase):

    def check(self, case):
        length = growing.growing_ring_length(case)
        ring = growing_ring(case)
        if length is None:
            self.assertIsNone(ring, case)
            return
        self.assertTrue(growing.is_growing_ring(case, ring), (case, ring))
        self.assertEqual(len(ring), length, (case, ring))
        self.assertIs(is_growing_ring(case, ring), True)
        self.assertEqual(growing_ring(same_again(case)), ring)

    def test_examples(self):
        self.assertEqual(len(growing_ring(CROSSED)), 2)
        self.assertEqual(len(growing_ring(THREE_WAIT)), 3)
        self.assertEqual(len(growing_ring(RING_CASE)), 3)
        for case in [CROSSED, THREE_WAIT, RING_CASE, RING_CASE + CROSSED, CROSSED + THREE_WAIT]:
            self.check(case)

    def test_no_ring(self):
        for case in [BEHIND, GOOD_CASE, THREE_WAIT[:2], RING_CASE[1:], ((('a',), ()),), ((('a', 'b'), ('a', 'a')),)]:
            self.assertIsNone(growing_ring(case))
            self.check(case)

    def test_count_conflicts_do_not_matter(self):
        self.assertIsNone(growing_ring(((('a',), ('a',) * 20), (('a',), ()))))
        self.assertEqual(len(growing_ring(((('a', 'b'), ('a', 'b', 'a')), (('a', 'b'), ('a', 'a'))))), 2)

    def test_lengths_of_two_to_six(self):
        for size in range(2, 7):
            ring = 'abcdef'[:size]
            case = tuple(
                (tuple(sorted({one, other})), (one,)) for one, other in zip(ring, ring[1:] + ring[0])
            )
            self.assertEqual(len(growing_ring(case)), size)
            self.check(case)
            self.check(case[::-1])
            self.assertIsNone(growing_ring(case[1:]))

    def test_short_ring_behind_a_long_one(self):
        long = ((('a', 'b'), ('a',)), (('b', 'c'), ('b',)), (('c', 'd'), ('c',)), (('a', 'd'), ('d',)))
        case = long + ((('x', 'y'), ('x',)), (('x', 'y'), ('y',)))
        self.assertEqual(len(growing_ring(case)), 2)
        self.assertEqual(len(growing_ring(case[:5])), 4)
        self.check(case)

    def test_many_cases(self):
        lengths = []
        for case in all_growing_cases():
            self.check(case)
            lengths.append(growing.growing_ring_length(case))
        self.assertGreater(min(lengths.count(size) for size in (2, 3, 4, 5, 6)), 10)

    def test_new_lists(self):
        check_new_lists(self, growing_ring, CROSSED)
        check_new_lists(self, growing_ring, THREE_WAIT)
        check_new_lists(self, growing_ring, RING_CASE)

    def test_same_result_after_other_calls(self):
        cases = small_growing_cases()
        first = [growing_ring(case) for case in cases]
        again = [growing_ring(same_again(case)) for case in cases[::-1]]
        self.assertEqual(first, again[::-1])

    def test_same_result_in_another_run(self):
        program = (
            'from partviews.growing import growing_ring\n'
            'from tests.samples import small_growing_cases\n'
            'print([growing_ring(case) for case in small_growing_cases()])\n'
        )
        found = other_runs(program)
        self.assertIn('[(', found[0])
        self.assertEqual(found, found[:1] * 3)

    def test_errors(self):
        for case in NO_CASES:
            check_raises(self, InvalidCase, growing_ring, case)


class MissingTest(unittest.TestCase):

    def test_examples(self):
        self.assertEqual(missing(BEHIND), [[], [('b', 1)]])
        self.assertEqual(missing(CROSSED), [[('b', 1)], [('a', 1)]])
        self.assertEqual(missing(GOOD_CASE), [[], []])
        self.assertEqual(missing(((('a', 'b'), ()),)), [[]])

    def test_ascending(self):
        case = ((('a', 'b', 'c'), ('b',)), (('b', 'c'), ('c', 'b', 'b', 'c')), (('a',), ('a',) * 11))
        self.assertEqual(missing(case), [
            [('a', k) for k in range(1, 12)] + [('b', 2), ('c', 1), ('c', 2)], [], [],
        ])
        case = ((('b', 'c'), ('b', 'c', 'b')), (('a', 'b', 'c'), ('c',)), (('x',), ()), (('b', 'x'), ('x',)))
        self.assertEqual(missing(case), [[], [('b', 1), ('b', 2)], [('x', 1)], [('b', 1), ('b', 2)]])

    def test_many_cases(self):
        many = 0
        for case in all_growing_cases():
            found = missing(case)
            self.assertEqual(found, growing.misses(case), case)
            self.assertIs(type(found), list)
            self.assertEqual([type(row) for row in found], [list] * len(case))
            self.assertEqual(found, [sorted(row) for row in found])
            many += any(found)
        self.assertGreater(many, 200)

    def test_new_lists(self):
        check_new_lists(self, missing, BEHIND)
        check_new_lists(self, missing, GOOD_CASE)
        check_new_lists(self, missing, ((('a',), ()),) * 6)

    def test_lists_of_their_own(self):
        for case in [((('a',), ()),) * 6, ((('a',), ('a',)), (('a',), ()), (('a',), ())), GOOD_CASE]:
            found = missing(case)
            self.assertEqual(len({id(row) for row in found}), len(case))

    def test_errors(self):
        for case in NO_CASES:
            check_raises(self, InvalidCase, missing, case)


class ArgumentTest(unittest.TestCase):

    def test_arguments_are_not_changed(self):
        for case in small_growing_cases()[:60]:
            before = copy.deepcopy(case)
            for call in (growing_log, growing_ring, missing):
                call(case)
                self.assertEqual(repr(case), repr(before))

    def test_fitting_logs_begin(self):
        for case in random_cases(106, 80, 12):
            log = reference.least(case)
            if log is not None:
                self.assertIs(fits(case, log), True)
                self.assertIs(begins(case, log), True)


if __name__ == '__main__':
    unittest.main()
