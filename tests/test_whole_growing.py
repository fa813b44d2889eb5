"""Points 2, 3, 10 and 12 to 17 over the whole program: how its answers go together."""

import random
import unittest

from partviews.bare import bare_rings
from partviews.certain import is_before, is_settled, undecided
from partviews.checker import check
from partviews.conflicts import fits_every, minimal_conflicts
from partviews.counts import count_conflict, events
from partviews.growing import begins, growing_log, growing_ring, is_growing_ring, missing
from partviews.joining import all_logs, count_logs, is_possible, least_log
from partviews.logs import fits, is_case, is_log, restrict
from partviews.rings import shortest_ring
from partviews.thresholds import built_case, is_complete, open_pair, threshold
from partviews.workspace import Workspace
from tests import growing_reference as growing
from tests import reference
from tests.samples import (
    GOOD_CASE, NAMES, RING_CASE, begun, cases_with_rings, cycle_family, full_growing_cases, large_cases,
    large_growing_cases, lists_in, possible_case, random_cases, random_family, same_again, seen_from,
    small_cases, small_growing_cases, spoil,
)


def family_of(case):
    return tuple(names for names, view in case)


def families():
    rng = random.Random(161)
    found = [random_family(rng, most_in_set=1 + at % 6) for at in range(80)]
    return found + [cycle_family(rng, 3 + at % 4) for at in range(60)]


def complete_family(rng):
    """A family whose names all belong to common name sets, in pairs."""
    names = sorted(rng.sample(NAMES, rng.randint(1, 6)))
    if rng.random() < 0.3 or len(names) < 3:
        return (tuple(names),) + tuple(tuple(sorted(rng.sample(names, rng.randint(1, len(names))))) for _ in range(3))
    # Three parts of the names, each two of them together, and all names of each part in a common set.
    parts = [names[at::3] for at in range(3)]
    family = [tuple(sorted(parts[at] + parts[(at + 1) % 3])) for at in range(3)]
    family += [tuple(sorted(rng.sample(names, rng.randint(1, len(names))))) for _ in range(rng.randint(0, 3))]
    rng.shuffle(family)
    return tuple(family)


class ThresholdTest(unittest.TestCase):

    def test_enough_views(self):
        possible = []
        for case in small_cases() + large_cases() + cases_with_rings(162, 80, 10):
            number = threshold(family_of(case))
            together = fits_every(case, number)
            self.assertIs(is_possible(case), together, case)
            possible.append(together)
            self.assertIs(not minimal_conflicts(case), together)
            for group in minimal_conflicts(case):
                self.assertLessEqual(len(group), number)
        self.assertGreater(min(possible.count(True), possible.count(False)), 100)

    def test_every_lesser_number_is_too_small(self):
        found = set()
        for family in families():
            number = threshold(family)
            found.add(number)
            if number == 1:
                continue
            if number == 2:
                shared = [name for name in growing.names_of(family) if sum(name in known for known in family) > 1]
                seer = [at for at, known in enumerate(family) if shared[0] in known][0]
                case = tuple((known, shared[:1] * (at == seer)) for at, known in enumerate(family))
                case = tuple((known, tuple(view)) for known, view in case)
                self.assertIsNotNone(count_conflict(case))
            else:
                case = built_case(family, bare_rings(family)[-1])
                self.assertEqual(len(shortest_ring(case)), number)
            self.assertIs(is_case(case), True)
            self.assertEqual(family_of(case), family)
            self.assertIs(is_possible(case), False)
            for fewer in range(1, number):
                self.assertIs(fits_every(case, fewer), True)
            self.assertIs(fits_every(case, number), False)
        self.assertEqual(found, {1, 2, 3, 4, 5, 6})

    def test_no_shared_name(self):
        rng = random.Random(163)
        for family in families():
            if threshold(family) == 1:
                for _ in range(4):
                    views = [tuple(rng.choice(known) for _ in range(rng.randint(0, 9))) for known in family]
                    self.assertIs(is_possible(tuple(zip(family, views))), True)

    def test_smallest_conflicts_of_built_cases(self):
        for family in families():
            for ring in bare_rings(family)[:5]:
                case = built_case(family, ring)
                for group in minimal_conflicts(case):
                    self.assertEqual(len(group), len(ring))
                    self.assertEqual([len(case[at][1]) for at in group], [2] * len(ring))


class CompleteTest(unittest.TestCase):

    def test_possible_cases_of_complete_families(self):
        rng = random.Random(164)
        for _ in range(120):
            family = complete_family(rng)
            self.assertIs(is_complete(family), True, family)
            self.assertIsNone(open_pair(family))
            case = possible_case(rng, family, 25)
            self.assertIs(is_settled(case), True)
            self.assertEqual(undecided(case), [])
            if len(events(case)) <= 12:
                self.assertEqual(all_logs(case), [least_log(case)])
                self.assertEqual(count_logs(case), 1)

    def test_a_case_that_is_not_settled(self):
        many = 0
        for family in families():
            pair = open_pair(family)
            self.assertIs(is_complete(family), pair is None)
            if pair is None:
                continue
            many += 1
            case = seen_from(family, pair)
            self.assertIs(is_possible(case), True)
            self.assertIs(is_settled(case), False)
            self.assertEqual(undecided(case), [((pair[0], 1), (pair[1], 1))])
            self.assertEqual(all_logs(case), [pair, pair[::-1]])
        self.assertGreater(many, 60)


class GrowingTest(unittest.TestCase):

    def test_exactly_one_exists(self):
        found = []
        cases = small_growing_cases() + large_growing_cases() + full_growing_cases()
        for case in cases + small_cases() + cases_with_rings(165, 40, 8):
            log, ring = growing_log(case), growing_ring(case)
            self.assertIs(log is None, ring is not None, case)
            found.append(log is None)
            if log is None:
                self.assertIs(is_growing_ring(case, ring), True)
            else:
                self.assertIs(is_log(log), True)
                self.assertIs(begins(case, log), True)
                for names, view in case:
                    self.assertEqual(restrict(log, names)[:len(view)], view)
                self.assertEqual(check(('growing', case, log)), ('right',))
        self.assertGreater(min(found.count(True), found.count(False)), 150)

    def test_possible_cases(self):
        many = 0
        for case in small_cases() + large_cases():
            if is_possible(case):
                many += 1
                self.assertEqual(growing_log(case), least_log(case))
                self.assertEqual(missing(case), [[] for _ in case])
                self.assertIsNone(growing_ring(case))
            elif count_conflict(case) is None:
                # Nobody misses an event, so a growing ring is a ring.
                self.assertEqual(missing(case), [[] for _ in case])
                self.assertIsNone(growing_log(case))
                self.assertEqual(len(growing_ring(case)), len(shortest_ring(case)))
            else:
                self.assertTrue(any(missing(case)))
        self.assertGreater(many, 100)

    def test_whole_views_fit(self):
        for case in small_growing_cases():
            if not any(missing(case)):
                self.assertEqual(growing_log(case), least_log(case))
                self.assertIs(is_possible(case), growing_log(case) is not None)

    def test_beginnings_of_one_log(self):
        rng = random.Random(166)
        for case in small_cases() + large_cases() + random_cases(167, 60, 30):
            if not is_possible(case):
                continue
            for _ in range(3):
                part = begun(rng, case)
                log = growing_log(part)
                self.assertIsNotNone(log)
                self.assertIsNone(growing_ring(part))
                self.assertIs(begins(part, least_log(case)), True)
                self.assertIs(begins(part, log), True)

    def test_what_is_seen_later_is_missed_until_then(self):
        rng = random.Random(168)
        for case in random_cases(169, 60, 20):
            if not is_possible(case):
                continue
            part = begun(rng, case)
            for (names, view), (_, whole), missed in zip(part, case, missing(part)):
                seen = reference.row_of(view)
                known = [event for event in reference.row_of(whole) if event in events(part)]
                self.assertEqual(missed, sorted(event for event in known if event not in seen))

    def test_growing_log_fits_when_all_have_seen_it(self):
        many = 0
        for case in small_growing_cases() + large_growing_cases():
            log = growing_log(case)
            if log is None or max(len(restrict(log, names)) for names, view in case) > 20:
                continue
            many += any(missing(case))
            whole = seen_from(family_of(case), log)
            self.assertIs(fits(whole, log), True)
            self.assertEqual(least_log(whole), log)
            self.assertIs(begins(case, log), True)
            for missed, names, (_, view) in zip(missing(case), family_of(case), case):
                rest = reference.row_of(restrict(log, names))[len(view):]
                self.assertEqual(sorted(rest), missed)
        self.assertGreater(many, 60)

    def test_seen_events_are_certainly_first(self):
        for case in small_growing_cases():
            log = growing_log(case)
            if log is None or max(len(restrict(log, names)) for names, view in case) > 20:
                continue
            whole = seen_from(family_of(case), log)
            for (names, view), missed in zip(case, missing(case)):
                for event in missed:
                    for earlier in reference.row_of(view):
                        self.assertIs(is_before(whole, earlier, event), True)


class WorkspaceTest(unittest.TestCase):

    def test_views_of_one_log_in_any_order(self):
        rng = random.Random(171)
        for case in random_cases(170, 40, 15):
            if not is_possible(case):
                continue
            space = Workspace(family_of(case))
            left = [list(view) for names, view in case]
            while any(left):
                at = rng.choice([at for at, view in enumerate(left) if view])
                self.assertIn(left[at][0], space.possible_next(at))
                space.see(at, left[at].pop(0))
                self.assertEqual(space.log(), growing_log(space.case()))
                self.assertIs(begins(space.case(), least_log(case)), True)
                self.assertIs(space.is_whole(), not any(missing(space.case())))
            self.assertEqual(space.case(), case)
            self.assertEqual(space.log(), least_log(case))
            self.assertIs(space.is_whole(), True)

    def test_whole_workspaces_are_possible_cases(self):
        rng = random.Random(172)
        for at in range(40):
            space = Workspace(cycle_family(rng, 3 + at % 4))
            for _ in range(12):
                observer = rng.randrange(len(space.views()))
                space.see(observer, rng.choice(space.possible_next(observer)))
                self.assertIsNone(growing_ring(space.case()))
                self.assertIs(space.is_whole(), is_possible(space.case()))
            # Whoever misses an event sees the next one of the growing log, until nobody does.
            log = space.log()
            for observer, (names, view) in enumerate(space.case()):
                for name in restrict(log, names)[len(view):]:
                    self.assertIn(name, space.possible_next(observer))
                    space.see(observer, name)
            self.assertIs(space.is_whole(), True)
            self.assertEqual(space.log(), log)
            self.assertEqual(least_log(space.case()), log)


class NewListsTest(unittest.TestCase):
    """Point 2: a list that was returned, and each list in it, belongs to the caller."""

    def test_changed_lists_change_no_later_result(self):
        waiting = ((('a', 'b'), ('a',)), (('b', 'c'), ('b',)), (('a', 'c'), ('c',)))
        calls = [
            (events, GOOD_CASE), (shortest_ring, RING_CASE), (all_logs, GOOD_CASE), (undecided, GOOD_CASE),
            (minimal_conflicts, RING_CASE), (bare_rings, family_of(RING_CASE)), (growing_ring, waiting),
            (missing, waiting), (missing, GOOD_CASE),
        ]
        texts = [repr(call(case)) for call, case in calls]
        for call, case in calls:
            found = call(case)
            self.assertTrue(lists_in(found))
            spoil(found)
            again = [repr(other(same_again(value))) for other, value in calls]
            self.assertEqual(again, texts)
        self.assertEqual(check(('ring', RING_CASE, shortest_ring(RING_CASE))), ('right',))


if __name__ == '__main__':
    unittest.main()
