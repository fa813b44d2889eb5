"""Point 33 and partviews/asking.py."""

import copy
import random
import unittest

from partviews.asking import Asking
from partviews.errors import (
    Contradiction, Full, InvalidFamily, InvalidMark, InvalidNumber, InvalidObserver, NothingSeen, NotSeen, TooLong,
    TooMany,
)
from partviews.forever import forever
from partviews.knowing import is_known
from partviews.workspace import Workspace
from partviews.wrongs import InvalidQuestion
from tests import knowing_reference as knowing
from tests import machine_reference as machine
from tests import table_reference as tables
from tests.growing_reference import names_of
from tests.question_samples import (
    ANY_VALUES, FAMILY, FIRST_A, LATEST, NO, ODD, YES, bad_questions, counter, random_question,
)
from tests.samples import NO_FAMILIES, ODD_VALUES, check_raises, cycle_family, random_family, spoil
from tests.test_workspace import METHODS, Model, answer, model_state, state

PAIR = (('a', 'b'), ('a', 'b'))
FIRST = ((False, True, False), ((1, 2), (1, 1), (2, 2)))
LAST = ((False, True), ((1, 0), (1, 0)))
FURTHER = ['ask', 'verdicts', 'news', 'knowers']
WIDE = tuple((name,) for name in 'abc')


class AskModel(Model):
    """The asking workspace once more, as plainly as possible."""

    def __init__(self, family):
        Model.__init__(self, family)
        self.asked = []
        self.told = []
        self.kept = []

    def positions(self):
        return len(tables.reached_positions(self.case()))

    def verdicts(self):
        if self.asked and self.positions() > 1000:
            return (TooMany,)
        return [tables.forever(self.case(), question) for question in self.asked]

    def ask(self, question):
        if not machine.is_question(self.family, question):
            return (InvalidQuestion,)
        if len(self.asked) == 6:
            return (Full, 6)
        if self.positions() > 1000:
            return (TooMany,)
        self.asked = self.asked + [question]
        self.told = self.told + [tables.forever(self.case(), question)]
        return len(self.asked) - 1

    def news(self):
        now = self.verdicts()
        if type(now) is tuple:
            return now
        found = [(number, said) for number, said in enumerate(now) if said != self.told[number]]
        self.told = now
        return found

    def knowers(self, number):
        if type(number) is not int or number not in range(len(self.asked)):
            return (InvalidNumber,)
        return [
            observer for observer, view in enumerate(self.views)
            if knowing.is_known(self.family, self.family[observer], self.asked[number], view)
        ]

    def mark(self):
        number = Model.mark(self)
        if type(number) is int:
            self.kept.append((self.asked, self.told))
        return number

    def back(self, number):
        found = Model.back(self, number)
        if found is None:
            self.asked, self.told = self.kept[number]
            del self.kept[number + 1:]
        return found


def full_state(space, many):
    """All that an asking workspace with so many asked questions tells of itself; its news are told by a copy."""
    twin = copy.deepcopy(space)
    found = [answer(space.verdicts), answer(twin.news), answer(twin.news)]
    return state(space) + found + [answer(space.knowers, number) for number in range(-1, many + 1)]


def grown(space, events):
    for observer, name in events:
        space.see(observer, name)
    return space


def crowded():
    """A workspace with more than 1,000 positions."""
    return grown(Asking(WIDE), [(at, name) for at, (name,) in enumerate(WIDE) for _ in range(10)])


class AskingCase(unittest.TestCase):

    def refused(self, space, error, call, *arguments):
        before = copy.deepcopy(full_state(space, 6))
        caught = check_raises(self, error, call, *arguments)
        self.assertEqual(repr(full_state(space, 6)), repr(before))
        return caught


class ClassTest(AskingCase):

    def test_class(self):
        self.assertTrue(issubclass(Asking, Workspace))
        self.assertIsNot(Asking, Workspace)
        self.assertIsInstance(Asking(PAIR), Workspace)
        self.assertEqual(Asking.__module__, 'partviews.asking')
        self.assertEqual([name for name in METHODS + FURTHER if name not in vars(Asking)], [])

    def test_as_a_workspace_makes_it(self):
        space, plain = Asking(FAMILY), Workspace(FAMILY)
        self.assertEqual(state(space), state(plain))
        self.assertEqual([space.verdicts(), space.news()], [[], []])
        self.assertEqual(space.marks(), [])

    def test_errors(self):
        for family in NO_FAMILIES:
            check_raises(self, InvalidFamily, Asking, family)

    def test_family_and_questions_are_not_changed(self):
        family, question = copy.deepcopy(FAMILY), copy.deepcopy(LATEST)
        space = Asking(family)
        space.ask(question)
        grown(space, [(0, 'a'), (1, 'c'), (1, 'b')])
        space.news()
        self.assertEqual([family, question], [FAMILY, LATEST])

    def test_calls_of_the_workspace(self):
        space = Asking(PAIR)
        self.assertIsNone(space.see(0, 'a'))
        self.refused(space, Contradiction, space.see, 1, 'b')
        self.refused(space, NotSeen, space.see, 1, 'c')
        self.assertIs(self.refused(space, InvalidObserver, space.see, True, 'a').number, True)
        self.refused(space, NothingSeen, space.take_back, 1)
        self.assertEqual(space.possible_next(1), ['a'])
        self.assertIs(space.is_whole(), False)
        self.assertIsNone(space.see(1, 'a'))
        self.assertIs(space.is_whole(), True)
        self.assertEqual(space.case(), (PAIR[:1] + (('a',),), PAIR[1:] + (('a',),)))
        self.assertEqual(space.log(), ('a',))
        self.assertEqual(space.mark(), 0)
        self.assertIsNone(space.take_back(1))
        self.assertEqual(space.views(), [('a',), ()])
        self.assertIsNone(space.back(0))
        self.assertEqual(space.views(), [('a',), ('a',)])
        for value in ODD_VALUES:
            if repr(value) != '0':
                self.assertEqual(repr(self.refused(space, InvalidMark, space.back, value).number), repr(value))
                self.assertEqual(repr(self.refused(space, InvalidObserver, space.take_back, 2).number), '2')
        for _ in range(19):
            space.see(0, 'a')
        self.refused(space, TooLong, space.see, 0, 'a')


class AskTest(AskingCase):

    def test_example(self):
        space = Asking(PAIR)
        number = space.ask(FIRST)
        first = space.verdicts()
        space.see(0, 'a')
        found = [number, first, space.verdicts(), space.news(), space.knowers(0)]
        self.assertEqual(found, [0, ['both'], ['yes'], [(0, 'yes')], [0]])

    def test_numbers(self):
        space = Asking(PAIR)
        self.assertEqual([space.ask(question) for question in [FIRST, LAST, FIRST, LAST, FIRST, LAST]], list(range(6)))
        self.assertEqual(space.verdicts(), ['both'] * 6)
        caught = self.refused(space, Full, space.ask, FIRST)
        self.assertEqual(caught.limit, 6)
        self.assertIs(type(caught.limit), int)
        self.refused(space, InvalidQuestion, space.ask, None)

    def test_no_questions(self):
        space = grown(Asking(FAMILY), [(0, 'a')])
        for value in bad_questions():
            self.refused(space, InvalidQuestion, space.ask, value)
        self.assertEqual(space.verdicts(), [])
        self.assertEqual(space.ask(LATEST), 0)
        for value in [FIRST, LAST, counter((('a', 'b', 'c', 'd'),), 'a', 2)]:
            self.refused(space, InvalidQuestion, space.ask, value)
        self.assertEqual(space.ask(ODD), 1)

    def test_order_of_the_errors(self):
        space = crowded()
        question = counter(WIDE, 'a', 2)
        self.refused(space, TooMany, space.ask, question)
        self.refused(space, InvalidQuestion, space.ask, LAST)
        for observer in range(3):
            for _ in range(2):
                space.take_back(observer)
        for _ in range(6):
            space.ask(question)
        for observer, (name,) in enumerate(WIDE):
            for _ in range(2):
                space.see(observer, name)
        self.refused(space, Full, space.ask, question)
        self.refused(space, InvalidQuestion, space.ask, LAST)
        self.refused(space, TooMany, space.verdicts)
        self.refused(space, TooMany, space.news)

    def test_exactly_1000_positions(self):
        question = counter(WIDE, 'a', 2)
        space = grown(Asking(WIDE), [(at, name) for at, (name,) in enumerate(WIDE) for _ in range(9)])
        self.assertEqual(space.ask(question), 0)
        self.assertEqual([space.verdicts(), space.news()], [['both'], []])
        space.see(2, 'c')
        self.refused(space, TooMany, space.verdicts)
        self.refused(space, TooMany, space.news)
        self.refused(space, TooMany, space.ask, question)
        self.assertEqual(space.knowers(0), [])
        space.take_back(2)
        self.assertEqual([space.verdicts(), space.news()], [['both'], []])

    def test_more_positions_without_questions(self):
        space = crowded()
        self.assertEqual([space.verdicts(), space.news()], [[], []])
        self.refused(space, InvalidNumber, space.knowers, 0)


class NewsTest(AskingCase):

    def test_told_once(self):
        space = Asking(PAIR)
        space.ask(FIRST)
        self.assertEqual(space.news(), [])
        space.see(1, 'b')
        self.assertEqual(space.verdicts(), ['no'])
        self.assertEqual(space.news(), [(0, 'no')])
        self.assertEqual(space.news(), [])
        space.take_back(1)
        self.assertEqual(space.news(), [(0, 'both')])
        self.assertEqual(space.news(), [])

    def test_a_change_that_is_taken_back_is_no_news(self):
        space = Asking(PAIR)
        space.ask(FIRST)
        space.see(1, 'b')
        space.take_back(1)
        self.assertEqual(space.news(), [])
        space.see(0, 'a')
        self.assertEqual(space.news(), [(0, 'yes')])

    def test_verdicts_when_they_are_asked(self):
        space = grown(Asking(PAIR), [(0, 'a')])
        space.ask(FIRST)
        space.ask(LAST)
        self.assertEqual(space.news(), [])
        space.take_back(0)
        space.ask(FIRST)
        self.assertEqual(space.news(), [(0, 'both')])
        space.see(0, 'b')
        self.assertEqual(space.verdicts(), ['no', 'both', 'no'])
        self.assertEqual(space.news(), [(0, 'no'), (2, 'no')])

    def test_verdicts_tell_no_news(self):
        space = Asking(PAIR)
        space.ask(FIRST)
        space.see(0, 'a')
        for _ in range(3):
            self.assertEqual(space.verdicts(), ['yes'])
        self.assertEqual(space.news(), [(0, 'yes')])

    def test_refused_news_tell_nothing(self):
        family = (('a', 'b'), ('c',), ('d',))
        space = Asking(family)
        first = ((False, True, False), ((1, 2, 0, 0), (1, 1, 1, 1), (2, 2, 2, 2)))
        space.ask(first)
        space.see(0, 'a')
        for observer, name in [(0, 'a'), (1, 'c'), (2, 'd')]:
            for _ in range(10):
                space.see(observer, name)
        self.refused(space, TooMany, space.news)
        for _ in range(10):
            space.take_back(0)
        self.assertEqual(space.views()[0], ('a',))
        self.assertEqual(space.news(), [(0, 'yes')])

    def test_a_verdict_stays_while_events_are_seen(self):
        rng = random.Random(441)
        stayed = 0
        for at in range(40):
            family = cycle_family(rng, 3 + at % 2)
            names = names_of(family)
            space = Asking(family)
            for _ in range(3):
                space.ask(random_question(rng, family, 3))
            space.ask(((False, True, False), tuple(
                tuple(one or (1 if name < names[2] else 2) for name in names) for one in range(3))))
            before = space.verdicts()
            for _ in range(7):
                observer = rng.randrange(len(family))
                space.see(observer, rng.choice(space.possible_next(observer)))
                now = space.verdicts()
                for one, other in zip(before, now):
                    if one != 'both':
                        stayed += 1
                        self.assertEqual(other, one)
                before = now
        self.assertGreater(stayed, 40)


class KnowersTest(AskingCase):

    def test_views_are_read_as_logs(self):
        space = Asking(FAMILY)
        self.assertEqual([space.ask(question) for question in (YES, NO, ODD, LATEST, FIRST_A)], list(range(5)))
        self.assertEqual([space.knowers(number) for number in range(5)], [[0, 1], [], [], [], []])
        space.see(0, 'b')
        self.assertEqual([space.knowers(number) for number in range(5)], [[0, 1], [], [0], [], []])
        space.see(1, 'b')
        space.see(1, 'b')
        self.assertEqual([space.knowers(number) for number in range(5)], [[0, 1], [], [0], [], []])
        space.take_back(1)
        self.assertEqual(space.knowers(2), [0, 1])

    def test_numbers_of_questions(self):
        space = Asking(FAMILY)
        for many in range(3):
            for value in ANY_VALUES + [many, many + 1, -1, -many, 6, 10 ** 30, '0', (0,), [0], True, False, None]:
                if type(value) is int and 0 <= value < many:
                    continue
                self.refused(space, InvalidNumber, space.knowers, value)
            space.ask(ODD)
        self.assertEqual(space.knowers(2), [])
        self.refused(space, InvalidNumber, space.knowers, 3)

    def test_many_positions(self):
        space = Asking(WIDE)
        question = counter(WIDE, 'a', 2)
        space.ask(question)
        space.ask(((True,), ((0, 0, 0),)))
        for observer, (name,) in enumerate(WIDE):
            for _ in range(10):
                space.see(observer, name)
        self.assertEqual([space.knowers(0), space.knowers(1)], [[0], [0, 1, 2]])

    def test_as_is_known(self):
        rng = random.Random(442)
        for _ in range(30):
            family = random_family(rng, most_observers=4, most_names=4, most_in_set=3)
            space = Asking(family)
            questions = [random_question(rng, family, 3) for _ in range(4)]
            for question in questions:
                space.ask(question)
            for _ in range(6):
                observer = rng.randrange(len(family))
                space.see(observer, rng.choice(space.possible_next(observer)))
            for number, question in enumerate(questions):
                right = [at for at, view in enumerate(space.views()) if is_known(family, at, question, view)]
                self.assertEqual(space.knowers(number), right)
                self.assertEqual(space.verdicts()[number], forever(space.case(), question))


class MarkTest(AskingCase):

    def test_marks_keep_what_was_asked_and_told(self):
        space = Asking(PAIR)
        space.mark()
        space.ask(FIRST)
        space.see(0, 'a')
        self.assertEqual(space.mark(), 1)
        self.assertEqual(space.news(), [(0, 'yes')])
        self.assertEqual(space.mark(), 2)
        space.ask(LAST)
        space.take_back(0)
        self.assertEqual(space.news(), [(0, 'both')])
        space.back(2)
        self.assertEqual([space.verdicts(), space.news()], [['yes'], []])
        self.refused(space, InvalidNumber, space.knowers, 1)
        space.back(1)
        self.assertEqual(space.verdicts(), ['yes'])
        self.assertEqual(space.news(), [(0, 'yes')])
        # Also once more: what was told since then is forgotten again.
        space.back(1)
        self.assertEqual(space.news(), [(0, 'yes')])
        self.assertEqual(space.ask(LAST), 1)
        space.back(0)
        self.assertEqual([space.verdicts(), space.news(), space.views()], [[], [], [(), ()]])
        self.assertEqual(space.ask(LAST), 0)
        self.assertEqual(space.marks(), [0])

    def test_six_marks(self):
        space = Asking(PAIR)
        for number in range(6):
            self.assertEqual(space.mark(), number)
            space.ask(FIRST)
        self.assertEqual(self.refused(space, Full, space.mark).limit, 6)
        self.refused(space, Full, space.ask, FIRST)
        for number in (4, 3, 0):
            space.back(number)
            self.assertEqual(len(space.verdicts()), number)
            self.assertEqual(space.mark(), number + 1)
            space.back(number)
        self.assertEqual(space.ask(LAST), 0)

    def test_a_mark_in_the_place_of_a_removed_one(self):
        space = Asking(PAIR)
        space.mark()
        space.ask(FIRST)
        space.mark()
        space.back(0)
        space.ask(LAST)
        space.ask(FIRST)
        self.assertEqual(space.mark(), 1)
        space.back(0)
        self.refused(space, InvalidMark, space.back, 1)
        self.assertEqual(space.verdicts(), [])


class ListsTest(AskingCase):

    def test_new_lists(self):
        space = Asking(PAIR)
        space.ask(FIRST)
        space.ask(LAST)
        space.mark()
        space.see(0, 'a')
        kept = [space.verdicts(), space.knowers(0), copy.deepcopy(space).news(), space.views(), space.marks()]
        text = copy.deepcopy(kept)
        for _ in range(2):
            before = copy.deepcopy(full_state(space, 2))
            for value in full_state(space, 2):
                spoil(value)
            for call in (space.verdicts, lambda: space.knowers(0), lambda: copy.deepcopy(space).news()):
                first, second = call(), call()
                self.assertIsNot(first, second)
                self.assertIs(type(first), list)
                first.clear()
                second.append('spoiled')
            self.assertEqual(full_state(space, 2), before)
        news = space.news()
        self.assertEqual(news, [(0, 'yes')])
        news.clear()
        space.see(1, 'a')
        space.back(0)
        self.assertEqual(kept, text)
        self.assertEqual(space.news(), [])
        self.assertEqual([type(entry) for entry in text[2]], [tuple])

    def test_two_workspaces(self):
        one, other = Asking(PAIR), Asking(PAIR)
        one.ask(FIRST)
        one.mark()
        one.see(0, 'a')
        self.assertEqual([other.verdicts(), other.news(), other.marks()], [[], [], []])
        self.refused(other, InvalidNumber, other.knowers, 0)
        other.ask(LAST)
        self.assertEqual(one.news(), [(0, 'yes')])
        self.assertEqual(other.news(), [])


class HistoryTest(AskingCase):
    """Long histories of calls against the model."""

    def one_call(self, rng, space, model):
        odd = rng.choice(ANY_VALUES + [6, -1, True, False])
        observer = rng.randrange(len(model.family))
        kind = rng.random()
        if kind < 0.4:
            names = model.family[observer]
            name = odd if rng.random() < 0.05 else rng.choice(names)
            found, right = answer(space.see, observer, name), model.see(observer, name)
        elif kind < 0.52:
            found, right = answer(space.take_back, observer), model.take_back(observer)
        elif kind < 0.60:
            found, right = answer(space.mark), model.mark()
        elif kind < 0.68:
            number = odd if rng.random() < 0.2 else rng.randint(-1, 6)
            found, right = answer(space.back, number), model.back(number)
        elif kind < 0.8:
            question = odd if rng.random() < 0.2 else random_question(rng, model.family, 3)
            found, right = answer(space.ask, question), model.ask(question)
        elif kind < 0.88:
            found, right = answer(space.news), model.news()
        elif kind < 0.94:
            found, right = answer(space.verdicts), model.verdicts()
        else:
            number = odd if rng.random() < 0.2 else rng.randint(-1, 6)
            found, right = answer(space.knowers, number), model.knowers(number)
        self.assertEqual(repr(found), repr(right))
        if kind >= 0.8 and type(found) is list:
            found.append('spoiled')
        return right[0] if type(right) is tuple else None

    def run_history(self, rng, family, calls, errors):
        space, model = Asking(family), AskModel(family)
        for at in range(calls):
            error = self.one_call(rng, space, model)
            errors[error] = errors.get(error, 0) + 1
            if at % 12 == 0:
                self.assertEqual(state(space), model_state(model))
                self.assertEqual(answer(space.verdicts), model.verdicts())
        twin = copy.deepcopy(model)
        self.assertEqual(answer(copy.deepcopy(space).news), twin.news())
        self.assertEqual(state(space), model_state(model))

    def test_histories(self):
        rng = random.Random(443)
        errors = {}
        for at in range(60):
            if at % 3:
                family = random_family(rng, most_observers=4, most_names=4, most_in_set=3)
            else:
                family = cycle_family(rng, 3)
            self.run_history(rng, family, 60, errors)
        for error in (Contradiction, NothingSeen, InvalidMark, InvalidQuestion, InvalidNumber, Full):
            self.assertGreater(errors[error], 20, error)

    def test_histories_with_many_positions(self):
        rng = random.Random(444)
        errors = {}
        for _ in range(6):
            space, model = Asking(WIDE), AskModel(WIDE)
            for at, (name,) in enumerate(WIDE):
                for _ in range(9):
                    space.see(at, name)
                    model.see(at, name)
            for _ in range(25):
                error = self.one_call(rng, space, model)
                errors[error] = errors.get(error, 0) + 1
        self.assertGreater(errors[TooMany], 5)


if __name__ == '__main__':
    unittest.main()
