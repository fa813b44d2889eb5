"""Points 3, 7 to 10, 16 and 19 to 24 over the whole program: how its answers go together."""

import random
import unittest
from itertools import combinations

from partviews.certain import both_orders, is_before, is_settled, undecided
from partviews.conflicts import fits_every, minimal_conflicts
from partviews.counts import count_conflict, events
from partviews.errors import TooLong, TooMany
from partviews.growing import growing_log, growing_ring, is_growing_ring
from partviews.joining import all_logs, count_logs, is_possible, least_log
from partviews.logs import fits, restrict
from partviews.loose import built_growing_case, every_grows, growing_threshold, is_loose_ring, longest_loose_ring
from partviews.machines import (
    answer_to, are_alike, before_of, both_of, either_of, implies, joint_classes, least_question, once_of, opposite_of,
    parting_log, since_of,
)
from partviews.questions import best_pair, possible_views
from partviews.rings import is_ring, shortest_ring
from partviews.workspace import Workspace
from tests.growing_reference import names_of
from tests.question_samples import doubled, lasso, some_questions
from tests.samples import (
    cases_with_rings, check_new_lists, cycle_family, large_cases, large_growing_cases, random_cases, random_family,
    small_cases, small_growing_cases,
)


def reversed_case(case):
    return tuple((names, view[::-1]) for names, view in case)


def seen_backwards(case, event):
    """The event of the reversed case that is the given one of a case without count conflict."""
    name, k = event
    return (name, max(view.count(name) for names, view in case) + 1 - k)


class ReversedTest(unittest.TestCase):
    """Reversed views have the reversed logs."""

    def test_logs(self):
        found = []
        for case in small_cases() + random_cases(241, 80, 12):
            back = reversed_case(case)
            self.assertIs(is_possible(back), is_possible(case))
            self.assertEqual(count_conflict(back), count_conflict(case))
            self.assertEqual(events(back), events(case))
            try:
                logs = all_logs(case)
            except (TooLong, TooMany) as error:
                self.assertRaises(type(error), all_logs, back)
                continue
            self.assertEqual(all_logs(back), sorted(log[::-1] for log in logs))
            self.assertEqual(count_logs(back), count_logs(case))
            self.assertEqual(least_log(back), min([log[::-1] for log in logs], default=None))
            found.append(len(logs))
        self.assertGreater(len([many for many in found if many > 1]), 20)

    def test_long_cases(self):
        for case in large_cases():
            back = reversed_case(case)
            self.assertIs(is_possible(back), is_possible(case))
            if is_possible(case):
                self.assertIs(fits(back, least_log(case)[::-1]), True)
                self.assertIs(fits(case, least_log(back)[::-1]), True)
                self.assertIs(is_settled(back), is_settled(case))

    def test_rings(self):
        rings = 0
        for case in small_cases() + large_cases() + cases_with_rings(242, 60, 12):
            if count_conflict(case) is not None:
                continue
            back = reversed_case(case)
            ring, other = shortest_ring(case), shortest_ring(back)
            self.assertIs(ring is None, other is None)
            if ring is None:
                continue
            rings += 1
            self.assertEqual(len(other), len(ring))
            # Backwards a step leads from an event to the one before it, by the observer of the latter.
            turned = [seen_backwards(case, step[:2]) for step in ring[::-1]]
            watchers = [step[2] for step in ring[::-1]]
            watchers = watchers[1:] + watchers[:1]
            turned = [event + (observer,) for event, observer in zip(turned, watchers)]
            self.assertIs(is_ring(back, turned), True)
        self.assertGreater(rings, 100)

    def test_certain_orders(self):
        many = 0
        for case in small_cases() + random_cases(243, 40, 12):
            if not is_possible(case):
                continue
            back = reversed_case(case)
            for one, other in combinations(events(case), 2):
                first, second = seen_backwards(case, one), seen_backwards(case, other)
                self.assertIs(is_before(back, second, first), is_before(case, one, other))
                self.assertIs(is_before(back, first, second), is_before(case, other, one))
            pairs = [tuple(sorted(seen_backwards(case, event) for event in pair)) for pair in undecided(case)]
            self.assertEqual(undecided(back), sorted(pairs))
            for one, other in undecided(case)[:4]:
                many += 1
                for log in both_orders(back, seen_backwards(case, one), seen_backwards(case, other)):
                    self.assertIs(fits(case, log[::-1]), True)
            self.assertIs(is_settled(back), is_settled(case))
        self.assertGreater(many, 40)

    def test_conflicts(self):
        for case in small_cases() + cases_with_rings(244, 40, 10):
            back = reversed_case(case)
            self.assertEqual(minimal_conflicts(back), minimal_conflicts(case))
            for number in range(1, 7):
                self.assertIs(fits_every(back, number), fits_every(case, number))

    def test_possible_views_and_best_pairs(self):
        rng = random.Random(245)
        pairs = 0
        for case in small_cases() + random_cases(246, 120, 9, most_in_set=2):
            if not is_possible(case) or len(events(case)) > 12 or count_logs(case) > 200:
                continue
            back = reversed_case(case)
            names = names_of(tuple(known for known, view in case))
            for _ in range(3):
                chosen = tuple(sorted(rng.sample(names, rng.randint(1, min(6, len(names))))))
                turned = sorted((view[::-1], many) for view, many in possible_views(case, chosen))
                self.assertEqual(possible_views(back, chosen), turned)
            self.assertEqual(best_pair(back), best_pair(case))
            pairs += best_pair(case) is not None
        self.assertGreater(pairs, 20)


class FurtherObserverTest(unittest.TestCase):
    """A further observer with one of its possible views leaves just as many logs as its number says."""

    def test_numbers_of_logs_left(self):
        many = 0
        for case in small_cases() + random_cases(247, 80, 8, most_in_set=2):
            if not is_possible(case) or len(events(case)) > 12 or count_logs(case) > 200 or len(case) > 5:
                continue
            pair = best_pair(case)
            if pair is None:
                continue
            many += 1
            for view, left in possible_views(case, pair):
                further = case + ((pair, view),)
                self.assertEqual(count_logs(further), left)
                self.assertEqual(all_logs(further), [log for log in all_logs(case) if restrict(log, pair) == view])
        self.assertGreater(many, 15)


class GrowingThresholdTest(unittest.TestCase):

    def test_enough_views(self):
        grown = []
        for case in small_growing_cases() + large_growing_cases()[:60] + small_cases()[::3]:
            number = growing_threshold(tuple(names for names, view in case))
            grown.append(growing_log(case) is not None)
            self.assertIs(every_grows(case, number), grown[-1], case)
            if not grown[-1]:
                self.assertLessEqual(len(growing_ring(case)), number)
        self.assertGreater(min(grown.count(True), grown.count(False)), 60)

    def test_every_lesser_number_is_too_small(self):
        rng = random.Random(248)
        found = set()
        for at in range(120):
            family = cycle_family(rng, 3 + at // 2 % 4) if at % 2 else random_family(rng)
            number = growing_threshold(family)
            found.add(number)
            ring = longest_loose_ring(family)
            if number == 1:
                self.assertIsNone(ring)
                continue
            self.assertIs(is_loose_ring(family, ring), True)
            case = built_growing_case(family, ring)
            self.assertIsNone(growing_log(case))
            for fewer in range(1, number):
                self.assertIs(every_grows(case, fewer), True)
            self.assertIs(every_grows(case, number), False)
            steps = [(name, 1, observer) for name, observer in ring]
            # The second event of each observer is the first one of the next, so the pairs are a growing ring.
            self.assertIs(is_growing_ring(case, steps), True)
            self.assertEqual(len(growing_ring(case)), number)
        self.assertEqual(found, {1, 2, 3, 4, 5, 6})

    def test_workspaces_keep_what_every_few_views_have(self):
        rng = random.Random(249)
        for at in range(20):
            family = cycle_family(rng, 3 + at % 4)
            space = Workspace(family)
            for _ in range(10):
                observer = rng.randrange(len(family))
                space.see(observer, rng.choice(space.possible_next(observer)))
                self.assertIs(every_grows(space.case(), growing_threshold(family)), True)


class MadeQuestionsTest(unittest.TestCase):

    def test_opposites(self):
        for family, question, other in some_questions(251, 200):
            small, second = least_question(family, question), least_question(family, other)
            self.assertEqual(opposite_of(family, opposite_of(family, small)), small)
            self.assertEqual(opposite_of(family, opposite_of(family, question)), small)
            one, two = opposite_of(family, question), opposite_of(family, other)
            both, either = both_of(family, question, other), either_of(family, question, other)
            self.assertEqual(opposite_of(family, both), either_of(family, one, two))
            self.assertEqual(opposite_of(family, either), both_of(family, one, two))
            self.assertEqual(both_of(family, small, second), both)

    def test_opposites_of_many_states(self):
        for tail, cycle in [(0, 60), (59, 1), (0, 30), (7, 41)]:
            family = (('a', 'b'), ('b', 'c'))
            question = lasso(family, 'b', tail, cycle)
            self.assertEqual(opposite_of(family, opposite_of(family, question)), question)
            self.assertEqual(both_of(family, question, question), question)

    def test_order_of_the_two_questions(self):
        for family, question, other in some_questions(252, 200):
            for call in (both_of, either_of):
                self.assertEqual(call(family, question, other), call(family, other, question))
                self.assertEqual(call(family, question, question), least_question(family, question))

    def test_the_same_for_alike_questions(self):
        rng = random.Random(253)
        for family, question, other in some_questions(254, 120):
            one, two = doubled(rng, question), doubled(rng, other)
            for call in (both_of, either_of, since_of):
                self.assertEqual(call(family, one, two), call(family, question, other))
            for call in (least_question, opposite_of, once_of, before_of):
                self.assertEqual(call(family, one), call(family, question))

    def test_alike_questions(self):
        alike = []
        for family, question, other in some_questions(255, 300):
            same = least_question(family, question) == least_question(family, other)
            alike.append(same)
            self.assertIs(are_alike(family, question, other), same)
            self.assertIs(parting_log(family, question, other) is None, same)
            self.assertIs(joint_classes(family, question, other) is not None, same)
            self.assertIs(implies(family, question, other) and implies(family, other, question), same)
        self.assertGreater(min(alike.count(True), alike.count(False)), 60)

    def test_what_implies_what(self):
        for family, question, other in some_questions(256, 200):
            both, either = both_of(family, question, other), either_of(family, question, other)
            self.assertIs(implies(family, both, question) and implies(family, both, other), True)
            self.assertIs(implies(family, question, either) and implies(family, other, either), True)
            self.assertIs(implies(family, question, once_of(family, question)), True)
            self.assertIs(implies(family, other, since_of(family, question, other)), True)
            self.assertIs(implies(family, since_of(family, question, other), once_of(family, other)), True)
            least = least_question(family, question)
            self.assertIs(implies(family, question, other), both == least)
            self.assertIs(implies(family, question, other), either == least_question(family, other))
            names = names_of(family)
            yes = ((True,), ((0,) * len(names),))
            self.assertEqual(since_of(family, yes, other), once_of(family, other))

    def test_parting_logs_of_what_was_made(self):
        for family, question, other in some_questions(257, 150):
            both, either = both_of(family, question, other), either_of(family, question, other)
            self.assertEqual(parting_log(family, both, either), parting_log(family, question, other))
            self.assertEqual(parting_log(family, question, opposite_of(family, question)), ())
            once = once_of(family, question)
            log = parting_log(family, question, once)
            if log is not None:
                self.assertIs(answer_to(family, once, log), True)
                self.assertIs(answer_to(family, question, log), False)
                self.assertIs(answer_to(family, question, log[:-1]), True)


class NewListsTest(unittest.TestCase):

    def test_possible_views(self):
        for case in random_cases(258, 30, 6):
            if is_possible(case) and len(events(case)) <= 12 and count_logs(case) <= 200:
                check_new_lists(self, possible_views, case, case[0][0])


if __name__ == '__main__':
    unittest.main()
