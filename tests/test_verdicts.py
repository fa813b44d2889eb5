"""Point 28 and partviews/verdicts.py."""

import random
import unittest

from partviews.errors import Impossible, InvalidCase, TooMany
from partviews.groups import does_answer
from partviews.joining import all_logs
from partviews.verdicts import all_cuts, cut_table, first_log, is_cut_table, verdict
from partviews.wrongs import InvalidQuestion
from tests import growing_reference as growing
from tests import machine_reference as machine
from tests import reference
from tests import table_reference as tables
from tests.question_samples import (
    FIRST_A, LATEST, NO, ODD, YES, bad_questions, check_right_ones, check_wrong_ones, counter, random_question,
)
from tests.samples import (
    GOOD_CASE, NO_CASES, RING_CASE, check_new_lists, check_raises, cycle_family, possible_case, random_family,
)
from tests.table_samples import changed_tables, odd_tables

CALLS = [(all_cuts, 'c'), (verdict, 'cq'), (first_log, 'cqb'), (cut_table, 'cq'), (is_cut_table, 'cqv')]
# Two observers without a common name: each cut of one goes with each cut of the other one.
EXACTLY_300 = ((('a',), ('a',) * 14), (('b',), ('b',) * 19))
MORE_THAN_300 = ((('a',), ('a',) * 15), (('b',), ('b',) * 18))
COUNTS_DIFFER = ((('a', 'b'), ('a',)), (('b', 'c'), ('b',)))


def some_cases(seed, many, length=8):
    """Tuples (possible case with few events, question)."""
    rng = random.Random(seed)
    found = []
    while len(found) < many:
        family = random_family(rng, most_names=5, most_in_set=3)
        if rng.random() < 0.4:
            family = cycle_family(rng, rng.randint(3, 4))
        case = possible_case(rng, family, length)
        logs = reference.number_of_logs(case)
        if logs <= 200 and (logs > 1 or rng.random() < 0.1):
            found.append((case, random_question(rng, family)))
    return found


class VerdictTest(unittest.TestCase):

    def check(self, case, question):
        """Compare all but tables with the reference."""
        self.assertEqual(all_cuts(case), tables.cuts(case))
        right = tables.verdict(tables.answers(case, question))
        self.assertEqual(verdict(case, question), right)
        for answer in (True, False):
            logs = tables.chosen(case, question, answer)
            self.assertEqual(first_log(case, question, answer), logs[0] if logs else None)
        self.assertEqual(cut_table(case, question), tables.cut_table(case, question))
        return right

    def test_examples(self):
        self.assertEqual(
            all_cuts(GOOD_CASE), [(0, 0, 0), (0, 0, 1), (1, 0, 0), (1, 0, 1), (1, 1, 1), (2, 1, 1)])
        self.assertEqual([verdict(GOOD_CASE, LATEST), verdict(GOOD_CASE, FIRST_A)], ['yes', 'both'])
        self.assertEqual(first_log(GOOD_CASE, FIRST_A, False), ('c', 'a', 'b', 'a'))
        self.assertEqual(first_log(GOOD_CASE, FIRST_A, True), ('a', 'c', 'b', 'a'))
        self.assertIsNone(first_log(GOOD_CASE, LATEST, False))
        self.assertEqual(
            cut_table(GOOD_CASE, FIRST_A)[3:], [((1, 0, 1), (1, 2)), ((1, 1, 1), (1, 2)), ((2, 1, 1), (1, 2))])
        self.assertEqual(self.check(GOOD_CASE, LATEST), 'yes')
        self.assertEqual(self.check(GOOD_CASE, FIRST_A), 'both')
        self.assertEqual(self.check(GOOD_CASE, counter(growing.family_of(GOOD_CASE), 'a', 3)), 'no')

    def test_cases_without_events(self):
        empty = ((('a', 'b'), ()), (('b', 'c'), ()))
        for question, right in [(LATEST, 'no'), (YES, 'yes'), (NO, 'no'), (ODD, 'no')]:
            self.assertEqual(self.check(empty, question), right)
            self.assertEqual(all_cuts(empty), [(0, 0, 0)])
            self.assertEqual(cut_table(empty, question), [((0, 0, 0), (0,))])
            self.assertEqual(first_log(empty, question, right == 'yes'), ())
            self.assertIsNone(first_log(empty, question, right != 'yes'))

    def test_names_without_events(self):
        case = ((('a', 'b'), ('b', 'b')), (('b', 'c'), ('b', 'b')))
        self.assertEqual(all_cuts(case), [(0, 0, 0), (0, 1, 0), (0, 2, 0)])
        self.assertEqual(self.check(case, ODD), 'no')

    def test_many_cases(self):
        found = []
        for case, question in some_cases(331, 200):
            found.append(self.check(case, question))
        self.assertGreater(min(found.count('yes'), found.count('no'), found.count('both')), 25)

    def test_states_that_no_log_leads_to(self):
        question = ((True, False, True), ((0, 0, 0), (1, 2, 1), (2, 1, 2)))
        self.assertEqual(self.check(GOOD_CASE, question), 'yes')
        self.assertEqual({states for _, states in cut_table(GOOD_CASE, question)}, {(0,)})

    def test_the_group_of_all_observers_answers(self):
        answered = 0
        for case, question in some_cases(332, 150):
            family = growing.family_of(case)
            if does_answer(family, tuple(range(len(family))), question):
                answered += 1
                self.assertNotEqual(verdict(case, question), 'both')
        self.assertGreater(answered, 30)

    def test_many_cuts(self):
        question = counter((('a',), ('b',)), 'b', 3)
        self.assertEqual(len(all_cuts(EXACTLY_300)), 300)
        self.assertEqual(all_cuts(EXACTLY_300), [(a, b) for a in range(15) for b in range(20)])
        self.assertEqual(verdict(EXACTLY_300, question), 'no')
        self.assertEqual(verdict(EXACTLY_300, ((False, True), ((1, 0), (1, 0)))), 'both')
        self.assertIsNone(first_log(EXACTLY_300, question, True))
        self.assertEqual(first_log(EXACTLY_300, question, False), ('a',) * 14 + ('b',) * 19)
        table = [((a, b), (b % 3,)) for a in range(15) for b in range(20)]
        self.assertEqual(cut_table(EXACTLY_300, question), table)
        self.assertIs(is_cut_table(EXACTLY_300, question, table), True)

    def test_long_cases(self):
        # One observer has seen everything, so there are few cuts.
        rng = random.Random(333)
        for _ in range(20):
            log = tuple(rng.choice('abc') for _ in range(20))
            family = (('a', 'b', 'c'), ('a', 'c'), ('b',))
            case = tuple((names, reference.kept(log, names)) for names in family)
            question = random_question(rng, family)
            said = machine.answer(family, question, log)
            self.assertEqual(verdict(case, question), 'yes' if said else 'no')
            self.assertEqual(first_log(case, question, said), log)
            self.assertIsNone(first_log(case, question, not said))
            self.assertEqual(all_cuts(case), [tables.cut_of(case, log[:size]) for size in range(21)][:21])

    def test_against_all_logs_of_the_program(self):
        for case, question in some_cases(334, 60):
            family = growing.family_of(case)
            answers = [machine.answer(family, question, log) for log in all_logs(case)]
            self.assertEqual(verdict(case, question), tables.verdict(answers))


class CutTableTest(unittest.TestCase):

    def check(self, case, question, value, known=None):
        right = tables.is_cut_table(case, question, value, known)
        self.assertIs(is_cut_table(case, question, value), right, (case, question, value))
        return right

    def test_least_and_wider_tables(self):
        least = cut_table(GOOD_CASE, FIRST_A)
        wide = [(cut, (0, 1, 2)) for cut, _ in least]
        wider = least[:-1] + [(least[-1][0], (0, 1, 2))]
        for value in (least, wide, wider, least[::-1], wide[::-1], least[3:] + least[:3]):
            self.assertIs(self.check(GOOD_CASE, FIRST_A, value), True)

    def test_wrong_tables(self):
        least = cut_table(GOOD_CASE, FIRST_A)
        self.assertEqual(least[0], ((0, 0, 0), (0,)))
        values = [tuple(least), [], None, least + least, least + least[:1], least[1:], least[:-1]]
        values += [least[:2] + least[3:]]
        values += [[list(entry) for entry in least], [(list(cut), states) for cut, states in least]]
        values += [[(cut, list(states)) for cut, states in least], [(cut, states[::-1]) for cut, states in least]]
        values += [[(cut, states + states) for cut, states in least], [(cut, ()) for cut, states in least]]
        values += [least + [((0, 1, 0), (0,))], least + [((2, 1, 0), (0,))], least + [((3, 1, 1), (1, 2))]]
        values += [least + [((0, 0, -1), (0,))], [((0, 0, 0), (1,))] + least[1:], [((0, 0, 0), ())] + least[1:]]
        values += [[((False, 0, 0), (0,))] + least[1:], [((0, 0, 0), (False,))] + least[1:]]
        values += [least[:-1] + [((2, 1, 1), (1,))], least[:-1] + [((2, 1, 1), (2,))], least[:-1] + [((2, 1, 1), (0,))]]
        values += [least[:-1] + [((2, 1, 1), (True, 2))], least[:-1] + [((2, True, 1), (1, 2))]]
        values += [least + [((2, 1), ())], least + [((2, 1, 1, 0), ())], least + [((), ())], least + [((2,), (1,))]]
        values += [least + [((-1, 0, 0), ())], least + [((0, -2, 0), ())], least + [((2, 1, 1, 0, 0), (1, 2))]]
        values += [least[:-1] + [((2, 1, 1), (1, 2, 3))], least[:-1] + [((2, 1, 1), (1, 2), ())]]
        for value in values:
            self.assertIs(self.check(GOOD_CASE, FIRST_A, value), False)

    def test_any_values(self):
        for value in odd_tables():
            self.assertIs(self.check(GOOD_CASE, FIRST_A, value), False)
        empty = ((('a', 'b'), ()), (('b', 'c'), ()))
        self.assertIs(self.check(empty, FIRST_A, [((0, 0, 0), (0,))]), True)
        self.assertIs(self.check(empty, FIRST_A, [((0, 0, 0), (0, 2))]), True)
        for value in [[], [((0, 0, 0), ())], [((0, 0, 0), (1,))], [((0, 0, 0), (0,)), ((1, 0, 0), (1,))]]:
            self.assertIs(self.check(empty, FIRST_A, value), False)

    def test_many_tables(self):
        rng = random.Random(335)
        found = []
        for case, question in some_cases(336, 60):
            known = tables.cuts(case)
            many = len(question[0])
            least = cut_table(case, question)
            wide = [(cut, tuple(range(many))) for cut, _ in least]
            # All next states of one state more at each cut, so that the table stays one.
            wider = {cut: set(states) | {rng.randrange(many)} for cut, states in least}
            moves = tables.cut_moves(case, known)
            for cut in known:
                for name, target in moves[cut]:
                    family = growing.family_of(case)
                    wider[target] |= {machine.next_state(family, question, state, name) for state in wider[cut]}
            wider = [(cut, tuple(sorted(wider[cut]))) for cut in known]
            for table in (least, wide, wider):
                self.assertIs(self.check(case, question, table, known), True)
                for value in changed_tables(rng, table, many, 12):
                    found.append(self.check(case, question, value, known))
        self.assertGreater(min(found.count(True), found.count(False)), 500)


class ErrorsTest(unittest.TestCase):

    def test_right_ones(self):
        for call, kinds in CALLS:
            check_right_ones(self, call, kinds)

    def test_wrong_ones(self):
        for call, kinds in CALLS:
            check_wrong_ones(self, call, kinds)

    def test_order_of_the_errors(self):
        small = (('a',), ('b',))
        question = counter(small, 'a', 2)
        impossible = ((('a',), ('a',)), (('a', 'b'), ()), (('b',), ()))
        # More than 300 cuts, if the third observer had seen nothing of the ring.
        both = MORE_THAN_300 + ((('a', 'b'), ('a',)),)
        for call, kinds in CALLS:
            rest = (question, None, None)[:len(kinds) - 1]
            check_raises(self, Impossible, call, impossible, *rest)
            check_raises(self, Impossible, call, both, *rest)
            check_raises(self, TooMany, call, MORE_THAN_300, *rest)
            for value in NO_CASES[:12]:
                check_raises(self, InvalidCase, call, value, *rest)
            if len(kinds) > 1:
                for value in bad_questions()[:12]:
                    check_raises(self, InvalidQuestion, call, impossible, value, *rest[1:])
                    check_raises(self, InvalidQuestion, call, MORE_THAN_300, value, *rest[1:])

    def test_impossible_cases(self):
        for case in (RING_CASE, COUNTS_DIFFER[:1] + ((('b', 'c'), ('b', 'b')),)):
            for call, kinds in CALLS:
                check_raises(self, Impossible, call, case, *(LATEST, True, 0)[:len(kinds) - 1])

    def test_number_of_cuts(self):
        yes = ((True,), ((0, 0),))
        for call, kinds in CALLS:
            call(EXACTLY_300, *(yes, True, 0)[:len(kinds) - 1])
        for case in [MORE_THAN_300, ((('a',), ('a',) * 20), (('b',), ('b',) * 20))]:
            for call, kinds in CALLS:
                check_raises(self, TooMany, call, case, *(yes, True, 0)[:len(kinds) - 1])
        six = tuple(((name,), (name,) * 20) for name in 'abcdef')
        for call, kinds in CALLS:
            check_raises(self, TooMany, call, six, *(((True,), ((0,) * 6,)), True, 0)[:len(kinds) - 1])

    def test_one_cut_more(self):
        # Both have seen the one event c; before it and behind it each cut of one goes with each cut of the other one.
        def joined(before, behind):
            views = [(name,) * many + ('c',) + (name,) * more for name, many, more in zip('ab', before, behind)]
            return ((('a', 'c'), views[0]), (('b', 'c'), views[1]))

        yes = ((True,), ((0, 0, 0),))
        at_most, more = joined((15, 17), (3, 2)), joined((14, 19), (0, 0))
        self.assertEqual([len(tables.reached_positions(case)) for case in (at_most, more)], [300, 301])
        self.assertEqual(len(all_cuts(at_most)), 300)
        for call, kinds in CALLS:
            call(at_most, *(yes, True)[:len(kinds) - 1])
            check_raises(self, TooMany, call, more, *(yes, True, 0)[:len(kinds) - 1])

    def test_new_lists(self):
        check_new_lists(self, all_cuts, GOOD_CASE)
        check_new_lists(self, cut_table, GOOD_CASE, FIRST_A)


if __name__ == '__main__':
    unittest.main()
