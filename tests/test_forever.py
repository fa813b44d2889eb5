"""Point 30 and partviews/forever.py."""

import random
import unittest

from partviews.errors import Impossible, InvalidCase, TooMany
from partviews.forever import forever, is_position_table, position_table, turning_logs
from partviews.wrongs import InvalidQuestion
from tests import growing_reference as growing
from tests import machine_reference as machine
from tests import table_reference as tables
from tests.question_samples import (
    FIRST_A, LATEST, NO, ODD, YES, bad_questions, check_right_ones, check_wrong_ones, counter, lasso, random_question,
)
from tests.samples import NO_CASES, begun, check_new_lists, check_raises, cycle_family, possible_case, random_family
from tests.table_samples import changed_tables, odd_tables

CALLS = [(forever, 'cq'), (turning_logs, 'cq'), (position_table, 'cq'), (is_position_table, 'cqv')]
BEHIND = ((('a', 'b'), ('a', 'b')), (('a', 'b'), ('a',)))
CROSSED = ((('a', 'b'), ('a',)), (('a', 'b'), ('b',)))
AB = (('a', 'b'), ('a', 'b'))
FIRST = ((False, True, False), ((1, 2), (1, 1), (2, 2)))
LAST = ((False, True), ((1, 0), (1, 0)))


def free(*lengths):
    """A case of observers without common names that have seen so many events each: positions as many as they make."""
    return tuple(((name,), (name,) * length) for name, length in zip('abcdef', lengths))


def one_by_one(case):
    """A question of one state for the family of a case."""
    return ((True,), ((0,) * len(growing.names_of(growing.family_of(case))),))


EXACTLY_1000 = free(9, 9, 9)
MORE_THAN_1000 = free(6, 10, 12)


def some_cases(seed, many, length=7):
    """Tuples (growing case that has a growing log, question)."""
    rng = random.Random(seed)
    found = []
    while len(found) < many:
        family = cycle_family(rng, rng.randint(3, 4)) if rng.random() < 0.4 else random_family(
            rng, most_observers=4, most_names=5, most_in_set=3)
        case = begun(rng, possible_case(rng, family, length))
        if growing.growing_log(case) is not None and len(tables.positions(case)) <= 300:
            found.append((case, random_question(rng, family)))
    return found


class ForeverTest(unittest.TestCase):

    def check(self, case, question):
        """Compare with the reference, and look at the logs that are returned."""
        family = growing.family_of(case)
        right = tables.forever(case, question)
        self.assertEqual(forever(case, question), right, (case, question))
        logs = turning_logs(case, question)
        self.assertIs(logs is None, right != 'both')
        if logs is not None:
            self.assertEqual([type(entry) for entry in (logs,) + logs], [tuple, tuple, tuple])
            self.assertEqual([growing.begins(case, log) for log in logs], [True, True])
            self.assertEqual([machine.answer(family, question, log) for log in logs], [True, False])
            self.assertEqual(turning_logs(case, question), logs)
        self.assertEqual(position_table(case, question), tables.position_table(case, question))
        return right

    def test_examples(self):
        self.assertEqual([forever(BEHIND, FIRST), forever(BEHIND, LAST)], ['yes', 'both'])
        self.assertEqual(position_table(BEHIND, LAST), [((0, 0), (0,)), ((1, 1), (1,)), ((2, 1), (0, 1))])
        self.assertEqual([self.check(BEHIND, question) for question in (FIRST, LAST)], ['yes', 'both'])

    def test_cases_without_events(self):
        empty = ((('a', 'b'), ()), (('b', 'c'), ()))
        for question, right in [(YES, 'yes'), (NO, 'no'), (LATEST, 'both'), (ODD, 'both'), (FIRST_A, 'both')]:
            self.assertEqual(self.check(empty, question), right)
        # Whatever is still to come counts, also behind the empty views.
        self.assertEqual(position_table(empty, FIRST_A), [((0, 0), (0, 1, 2))])
        self.assertIsNone(turning_logs(empty, YES))

    def test_events_that_an_observer_misses(self):
        case = ((('a', 'b'), ('a',)), (('b', 'c'), ('b', 'c', 'b')))
        self.assertEqual(self.check(case, FIRST_A), 'yes')
        case = ((('a', 'b'), ('a',)), (('b', 'c'), ('c', 'b', 'b')))
        self.assertEqual(self.check(case, FIRST_A), 'both')
        case = ((('a', 'b'), ('b', 'a')), (('b', 'c'), ('b', 'c', 'b')))
        self.assertEqual(self.check(case, FIRST_A), 'no')
        case = ((('a', 'b', 'c'), ('a', 'b')), (('b', 'c'), ('b', 'c', 'b')))
        self.assertEqual(self.check(case, FIRST_A), 'yes')

    def test_far_answers(self):
        # The answer turns only behind 59 further events.
        case = ((('a', 'b'), ('b',)), (('b', 'c'), ('b',)))
        question = lasso((('a', 'b'), ('b', 'c')), 'c', 59, 1)
        self.assertEqual(self.check(case, question), 'both')
        self.assertGreaterEqual(len(turning_logs(case, question)[0]), 60)

    def test_many_cases(self):
        found = []
        for case, question in some_cases(371, 220):
            found.append(self.check(case, question))
        self.assertGreater(min(found.count('yes'), found.count('no'), found.count('both')), 20)

    def test_questions_that_settle(self):
        # "Once" and what never changes any more are for ever.
        rng = random.Random(372)
        found = []
        for case, _ in some_cases(373, 150):
            family = growing.family_of(case)
            names = growing.names_of(family)
            one, other = rng.choice(names), rng.choice(names)
            first = ((False, True, False), tuple(
                tuple(state or {one: 1}.get(name, {other: 2}.get(name, 0)) for name in names) for state in range(3)))
            found.append(self.check(case, first))
        self.assertGreater(min(found.count('yes'), found.count('no'), found.count('both')), 15)

    def test_verdicts_stay(self):
        rng = random.Random(374)
        stayed = 0
        for case, question in some_cases(375, 150, 6):
            family = growing.family_of(case)
            names = growing.names_of(family)
            first = ((False, True, False), tuple(
                tuple(state or (1 if name == names[0] else 2) for name in names) for state in range(3)))
            for asked in (question, first):
                said = forever(case, asked)
                if said == 'both':
                    continue
                now = case
                for _ in range(6):
                    at = rng.randrange(len(now))
                    known, view = now[at]
                    grown = now[:at] + ((known, view + (rng.choice(known),)),) + now[at + 1:]
                    if growing.growing_log(grown) is not None and len(tables.positions(grown)) <= 400:
                        now = grown
                        stayed += 1
                        self.assertEqual(forever(now, asked), said)
        self.assertGreater(stayed, 100)

    def test_many_positions(self):
        question = counter((('a',), ('b',), ('c',)), 'a', 2)
        stays = ((False, True), ((1, 0, 0), (1, 1, 1)))
        self.assertEqual(len(position_table(EXACTLY_1000, question)), 1000)
        self.assertEqual(forever(EXACTLY_1000, question), 'both')
        self.assertEqual(forever(EXACTLY_1000, stays), 'yes')
        table = position_table(EXACTLY_1000, stays)
        self.assertEqual(table, [((a, b, c), (int(a > 0),)) for a in range(10) for b in range(10) for c in range(10)])
        self.assertIs(is_position_table(EXACTLY_1000, stays, table), True)


class PositionTableTest(unittest.TestCase):

    def check(self, case, question, value, known=None):
        right = tables.is_position_table(case, question, value, known)
        self.assertIs(is_position_table(case, question, value), right, (case, question, value))
        return right

    def test_least_and_wider_tables(self):
        least = position_table(BEHIND, LAST)
        self.assertEqual(len(least), 3)
        wide = [(position, (0, 1)) for position, _ in least]
        for value in (least, wide, least[::-1], wide[::-1], least[:2] + wide[2:], least[1:] + least[:1]):
            self.assertIs(self.check(BEHIND, LAST, value), True)

    def test_positions_that_no_log_leads_to(self):
        least = position_table(BEHIND, LAST)
        # From (0, 1) on, the first observer has to read the name a, and the second one has read all.
        for more, right in [
                ([((0, 1), ())], True), ([((0, 1), (0,))], True), ([((0, 1), (0, 1))], True), ([((1, 0), (0,))], True),
                ([((0, 1), (0,)), ((1, 0), (1,))], True), ([((2, 0), ())], True), ([((2, 0), (0, 1))], True),
                ([((0, 2), ())], False), ([((3, 0), ())], False), ([((0, 1), ()), ((0, 1), ())], False)]:
            self.assertIs(self.check(BEHIND, LAST, least + more), right)
            self.assertIs(self.check(BEHIND, LAST, more + least), right)
        case = ((('a',), ('a',)), (('a', 'b'), ('a', 'b')), (('b',), ('b',)))
        question = ((False, True), ((1, 1), (0, 0)))
        least = position_table(case, question)
        # A position from which a name leads to one that is not in the table.
        self.assertIs(self.check(case, question, least + [((0, 0, 1), (0,))]), False)
        self.assertIs(self.check(case, question, least + [((0, 1, 0), (0,))]), False)
        rows = [(position, (0, 1)) for position in tables.positions(case)]
        self.assertIs(self.check(case, question, rows), True)

    def test_wrong_tables(self):
        least = position_table(BEHIND, LAST)
        values = [tuple(least), [], None, least + least, least + least[:1], least[1:], least[:-1], least[::2]]
        values += [[list(entry) for entry in least], [(list(place), states) for place, states in least]]
        values += [[(place, list(states)) for place, states in least], [(place, ()) for place, _ in least]]
        values += [least[:2] + [((2, 1), (1, 0))], least[:2] + [((2, 1), (0, 1, 1))], least[:2] + [((2, 1), (0,))]]
        values += [least[:2] + [((2, 1), (1,))], least[:2] + [((2, 1), (0, 1, 2))], least[:2] + [((2, True), (0, 1))]]
        values += [least[:2] + [((2, 1), (False, 1))], least[:2] + [((2, 1), (0, True))], least + [((2, 2), ())]]
        values += [[((0, False), (0,))] + least[1:], [((0, 0), (False,))] + least[1:], [((0, 0), (1,))] + least[1:]]
        values += [[least[0], ((1, True), (1,)), least[2]], [least[0], ((1, 1), (True,)), least[2]]]
        values += [least + [((-1, 0), ())], least + [((1, 1, 0), ())], least + [((1,), ())], least + [((), ())]]
        for value in values:
            self.assertIs(self.check(BEHIND, LAST, value), False)

    def test_any_values(self):
        for value in odd_tables():
            self.assertEqual(self.check(BEHIND, LAST, value), False)
        empty = ((('a', 'b'), ()), (('a', 'b'), ()))
        self.assertIs(self.check(empty, LAST, [((0, 0), (0,))]), False)
        self.assertIs(self.check(empty, LAST, [((0, 0), (0, 1))]), True)
        self.assertIs(self.check(empty, LAST, [((0, 0), (1,))]), False)
        self.assertIs(self.check(empty, ((False, True), ((0, 0), (1, 1))), [((0, 0), (0,))]), True)

    def test_many_tables(self):
        rng = random.Random(376)
        found = []
        for case, question in some_cases(377, 70, 6):
            known = tables.positions(case)
            many = len(question[0])
            least = position_table(case, question)
            wide = [(position, tuple(range(many))) for position in known]
            reached = [(position, tuple(range(many))) for position, _ in least]
            for table in (least, wide, reached):
                self.assertIs(self.check(case, question, table, known), True)
                for value in changed_tables(rng, table, many, 10):
                    found.append(self.check(case, question, value, known))
                spare = rng.choice(known)
                found.append(self.check(case, question, table + [(spare, (0,))], known))
        self.assertGreater(min(found.count(True), found.count(False)), 500)


class ErrorsTest(unittest.TestCase):

    def test_right_ones(self):
        for call, kinds in CALLS:
            check_right_ones(self, call, kinds)

    def test_wrong_ones(self):
        for call, kinds in CALLS:
            check_wrong_ones(self, call, kinds)

    def test_no_growing_log(self):
        for call, kinds in CALLS:
            check_raises(self, Impossible, call, CROSSED, FIRST, *[None] * (len(kinds) - 2))
            for value in bad_questions()[:40]:
                check_raises(self, InvalidQuestion, call, CROSSED, value, *[None] * (len(kinds) - 2))
            for value in NO_CASES:
                check_raises(self, InvalidCase, call, value, FIRST, *[None] * (len(kinds) - 2))
        # Views of which no log is the restriction, but which may still grow together.
        uneven = ((('a', 'b'), ('a', 'b')), (('b', 'c'), ('c',)))
        self.assertEqual(forever(uneven, YES), 'yes')

    def test_number_of_positions(self):
        self.assertEqual(len(tables.reached_positions(EXACTLY_1000)), 1000)
        for call, kinds in CALLS:
            call(EXACTLY_1000, one_by_one(EXACTLY_1000), *[None] * (len(kinds) - 2))
        for case in (MORE_THAN_1000, free(19, 20, 2), free(20, 20, 20, 20, 20, 20)):
            for call, kinds in CALLS:
                check_raises(self, TooMany, call, case, one_by_one(case), *[None] * (len(kinds) - 2))

    def test_one_position_more(self):
        # All three see the one event x; before it and behind it each position goes with each of the other ones.
        def joined(before, behind):
            views = [(name,) * many + ('x',) + (name,) * more for name, many, more in zip('abc', before, behind)]
            return tuple(((name, 'x'), view) for name, view in zip('abc', views))

        at_most, more = joined((9, 9, 8), (0, 9, 9)), joined((9, 9, 9), (0, 0, 0))
        self.assertEqual([len(tables.reached_positions(case)) for case in (at_most, more)], [1000, 1001])
        for call, kinds in CALLS:
            rest = [None] * (len(kinds) - 2)
            call(at_most, one_by_one(at_most), *rest)
            check_raises(self, TooMany, call, more, one_by_one(more), *rest)
        # Positions that no log leads to do not count.
        self.assertGreater(len(tables.positions(at_most)), 1000)

    def test_order_of_the_errors(self):
        # Too many positions, if there were a growing log.
        names = (('a', 'b'), ('a',)), (('a', 'b'), ('b',))
        case = names + tuple(((name,), (name,) * 20) for name in 'cdef')
        for call, kinds in CALLS:
            rest = [None] * (len(kinds) - 2)
            check_raises(self, Impossible, call, case, one_by_one(case), *rest)
            check_raises(self, InvalidQuestion, call, case, None, *rest)
            check_raises(self, InvalidQuestion, call, MORE_THAN_1000, None, *rest)
            check_raises(self, TooMany, call, MORE_THAN_1000, one_by_one(MORE_THAN_1000), *rest)

    def test_new_lists(self):
        check_new_lists(self, position_table, BEHIND, LAST)


if __name__ == '__main__':
    unittest.main()
