"""Point 17 and partviews/workspace.py."""

import copy
import random
import unittest

from partviews.errors import (
    Contradiction, Full, InvalidFamily, InvalidMark, InvalidObserver, NothingSeen, NotSeen, TooLong,
)
from partviews.workspace import Workspace
from tests import growing_reference as growing
from tests.samples import NO_FAMILIES, ODD_VALUES, check_raises, cycle_family, random_family, spoil
from tests.test_bare import FOUR, THREE

ABC = ('a', 'b', 'c')
ALL_SIX = ('a', 'b', 'c', 'd', 'e', 'f')
METHODS = ['see', 'take_back', 'mark', 'back', 'views', 'marks', 'case', 'log', 'possible_next', 'is_whole']


class Model:
    """The workspace once more, as plainly as possible. An error is answered by its class and its value."""

    def __init__(self, family):
        self.family = family
        self.views = [()] * len(family)
        self.marks = []

    def grown(self, observer, name):
        views = list(self.views)
        views[observer] += (name,)
        return views

    def grows(self, views):
        return growing.growing_log(tuple(zip(self.family, views))) is not None

    def is_observer(self, value):
        return type(value) is int and value in range(len(self.family))

    def see(self, observer, name):
        if not self.is_observer(observer):
            return (InvalidObserver, observer)
        if type(name) is not str or name not in self.family[observer]:
            return (NotSeen, name)
        if len(self.views[observer]) == 20:
            return (TooLong,)
        if not self.grows(self.grown(observer, name)):
            return (Contradiction,)
        self.views = self.grown(observer, name)
        return None

    def take_back(self, observer):
        if not self.is_observer(observer):
            return (InvalidObserver, observer)
        if not self.views[observer]:
            return (NothingSeen,)
        self.views = list(self.views)
        self.views[observer] = self.views[observer][:-1]
        return None

    def mark(self):
        if len(self.marks) == 6:
            return (Full, 6)
        self.marks.append(list(self.views))
        return len(self.marks) - 1

    def back(self, number):
        if type(number) is not int or number not in range(len(self.marks)):
            return (InvalidMark, number)
        self.views = list(self.marks[number])
        del self.marks[number + 1:]
        return None

    def possible_next(self, observer):
        if not self.is_observer(observer):
            return (InvalidObserver, observer)
        if len(self.views[observer]) == 20:
            return []
        return [name for name in sorted(self.family[observer]) if self.grows(self.grown(observer, name))]

    def case(self):
        return tuple(zip(self.family, self.views))


ATTRIBUTES = {InvalidObserver: 'number', NotSeen: 'name', Full: 'limit', InvalidMark: 'number'}


def answer(call, *arguments):
    """The result of a call, or its error as the model writes it."""
    try:
        return call(*arguments)
    except Exception as error:
        kind = type(error)
        if kind in ATTRIBUTES:
            return (kind, getattr(error, ATTRIBUTES[kind]))
        return (kind,)


def state(space):
    """All that a workspace tells of itself."""
    next_ones = [space.possible_next(observer) for observer in range(len(space.views()))]
    return [space.views(), space.marks(), space.case(), space.log(), next_ones, space.is_whole()]


def model_state(model):
    case = model.case()
    next_ones = [model.possible_next(observer) for observer in range(len(model.family))]
    return [
        model.views, list(range(len(model.marks))), case, growing.growing_log(case), next_ones,
        not any(growing.misses(case)),
    ]


def filled(family, *events):
    space = Workspace(family)
    for observer, name in events:
        space.see(observer, name)
    return space


class WorkspaceCase(unittest.TestCase):

    def refused(self, space, error, call, *arguments):
        """A call raises this error, with its value, and changes nothing."""
        before = copy.deepcopy(state(space))
        caught = check_raises(self, error, call, *arguments)
        self.assertEqual(repr(state(space)), repr(before))
        return caught


class NewTest(WorkspaceCase):

    def test_nothing_seen(self):
        space = Workspace(THREE)
        self.assertEqual(space.views(), [(), (), ()])
        self.assertEqual(space.marks(), [])
        self.assertEqual(space.case(), tuple((names, ()) for names in THREE))
        self.assertEqual(space.log(), ())
        self.assertEqual([space.possible_next(at) for at in range(3)], [['a', 'b'], ['b', 'c'], ['a', 'c']])
        self.assertIs(space.is_whole(), True)

    def test_methods_are_defined_in_the_class(self):
        self.assertEqual([name for name in METHODS if name not in vars(Workspace)], [])
        self.assertEqual(Workspace.__module__, 'partviews.workspace')

    def test_errors(self):
        for family in NO_FAMILIES:
            check_raises(self, InvalidFamily, Workspace, family)

    def test_family_is_not_changed(self):
        family = copy.deepcopy(THREE)
        space = filled(family, (0, 'a'), (1, 'c'))
        space.mark()
        self.assertEqual(family, THREE)


class SeeTest(WorkspaceCase):

    def test_events_at_the_end(self):
        space = Workspace(THREE)
        self.assertIsNone(space.see(0, 'a'))
        self.assertIsNone(space.see(0, 'b'))
        self.assertIsNone(space.see(0, 'a'))
        self.assertIsNone(space.see(2, 'a'))
        self.assertEqual(space.views(), [('a', 'b', 'a'), (), ('a',)])
        self.assertEqual(space.case(), ((('a', 'b'), ('a', 'b', 'a')), (('b', 'c'), ()), (('a', 'c'), ('a',))))
        self.assertEqual(space.log(), ('a', 'b', 'a'))
        self.assertIs(space.is_whole(), False)

    def test_invalid_observers(self):
        space = filled(THREE, (0, 'a'))
        for value in [3, 4, -1, -3, 10 ** 30, True, False, None, '0', 'a', (0,), [0], (), []] + ODD_VALUES:
            if repr(value) in ('0', '1'):
                continue
            for name in ('a', 'x', None):
                caught = self.refused(space, InvalidObserver, space.see, value, name)
                self.assertEqual(repr(caught.number), repr(value))
            caught = self.refused(space, InvalidObserver, space.possible_next, value)
            self.assertEqual(repr(caught.number), repr(value))
            caught = self.refused(space, InvalidObserver, space.take_back, value)
            self.assertEqual(repr(caught.number), repr(value))

    def test_names_that_are_not_seen(self):
        space = filled(THREE, (0, 'a'))
        for value in ODD_VALUES + ['c', 'x', 'A', 'b ', ('a', 'b'), ('a',), ['a'], 'aa']:
            if value in ('a', 'b'):
                continue
            caught = self.refused(space, NotSeen, space.see, 0, value)
            self.assertEqual(repr(caught.name), repr(value))
        caught = self.refused(space, NotSeen, space.see, 1, 'a')
        self.assertEqual(caught.name, 'a')
        caught = self.refused(space, NotSeen, space.see, 2, 'b')
        self.assertEqual(caught.name, 'b')

    def test_contradiction(self):
        space = filled((('a', 'b'), ('a', 'b')), (0, 'a'))
        self.refused(space, Contradiction, space.see, 1, 'b')
        space.see(1, 'a')
        self.assertIsNone(space.see(1, 'b'))
        self.refused(space, Contradiction, space.see, 0, 'a')
        space = filled(THREE, (0, 'a'), (1, 'b'))
        self.refused(space, Contradiction, space.see, 2, 'c')
        self.assertEqual(space.possible_next(2), ['a'])
        space = filled(FOUR, (0, 'a'), (1, 'c'), (2, 'b'))
        self.refused(space, Contradiction, space.see, 3, 'd')

    def test_full_views(self):
        space = Workspace((('a', 'b'), ('b', 'c')))
        for at in range(20):
            self.assertEqual(space.possible_next(0), ['a', 'b'])
            self.assertIsNone(space.see(0, 'ab'[at % 2]))
        self.assertEqual(space.possible_next(0), [])
        self.assertEqual(space.views(), [('a', 'b') * 10, ()])
        self.refused(space, TooLong, space.see, 0, 'a')
        self.refused(space, TooLong, space.see, 0, 'b')
        self.refused(space, NotSeen, space.see, 0, 'c')
        self.refused(space, InvalidObserver, space.see, 2, 'a')
        self.assertEqual(space.possible_next(1), ['b', 'c'])
        space.take_back(0)
        self.assertEqual(space.possible_next(0), ['a', 'b'])
        self.assertIsNone(space.see(0, 'a'))

    def test_a_view_that_waits_for_others(self):
        space = Workspace((('a', 'b'), ('a', 'b')))
        for _ in range(20):
            space.see(0, 'a')
        self.assertEqual(space.possible_next(1), ['a'])
        self.refused(space, Contradiction, space.see, 1, 'b')
        for _ in range(19):
            space.see(1, 'a')
        self.assertEqual(space.possible_next(1), ['a'])
        self.assertIs(space.is_whole(), False)
        space.see(1, 'a')
        self.assertIs(space.is_whole(), True)

    def test_too_long_before_contradiction(self):
        space = Workspace((('a', 'b', 'c'), ('a', 'b')))
        for name in ('a',) * 10 + ('c',) * 9:
            space.see(0, name)
        for name in ('a',) * 10 + ('b',):
            space.see(1, name)
        self.refused(space, Contradiction, space.see, 0, 'a')
        space.see(0, 'c')
        self.refused(space, TooLong, space.see, 0, 'a')
        self.refused(space, TooLong, space.see, 0, 'b')
        self.refused(space, NotSeen, space.see, 0, 'd')
        self.assertEqual(space.possible_next(0), [])

    def test_all_views_full(self):
        space = Workspace(tuple((name,) for name in ALL_SIX))
        for observer, name in enumerate(ALL_SIX):
            for _ in range(20):
                space.see(observer, name)
        self.assertEqual(len(space.log()), 120)
        self.assertEqual([space.possible_next(at) for at in range(6)], [[]] * 6)
        self.assertIs(space.is_whole(), True)


class TakeBackTest(WorkspaceCase):

    def test_last_event(self):
        space = filled(THREE, (0, 'a'), (0, 'b'), (2, 'a'))
        self.assertIsNone(space.take_back(0))
        self.assertEqual(space.views(), [('a',), (), ('a',)])
        self.assertIsNone(space.take_back(2))
        self.assertIsNone(space.take_back(0))
        self.assertEqual(space.views(), [(), (), ()])
        self.refused(space, NothingSeen, space.take_back, 0)
        self.refused(space, NothingSeen, space.take_back, 1)

    def test_empty_view_of_another_observer(self):
        space = filled(THREE, (0, 'a'))
        self.refused(space, NothingSeen, space.take_back, 1)
        self.refused(space, InvalidObserver, space.take_back, 3)
        self.assertEqual(space.views(), [('a',), (), ()])


class MarkTest(WorkspaceCase):

    def test_numbers(self):
        space = Workspace(THREE)
        self.assertEqual([space.mark() for _ in range(6)], [0, 1, 2, 3, 4, 5])
        self.assertEqual(space.marks(), [0, 1, 2, 3, 4, 5])
        caught = self.refused(space, Full, space.mark)
        self.assertEqual(caught.limit, 6)
        self.assertIs(type(caught.limit), int)
        self.assertIsNone(space.back(5))
        self.assertEqual(space.marks(), [0, 1, 2, 3, 4, 5])
        self.refused(space, Full, space.mark)
        self.assertIsNone(space.back(2))
        self.assertEqual(space.marks(), [0, 1, 2])
        self.assertEqual(space.mark(), 3)

    def test_return(self):
        space = Workspace(THREE)
        space.mark()
        space.see(0, 'a')
        space.mark()
        space.see(0, 'b')
        space.see(1, 'b')
        space.mark()
        space.take_back(0)
        for _ in range(2):
            self.assertIsNone(space.back(1))
            self.assertEqual(space.views(), [('a',), (), ()])
            self.assertEqual(space.marks(), [0, 1])
            space.see(2, 'a')
        self.refused(space, InvalidMark, space.back, 2)
        self.assertIsNone(space.back(0))
        self.assertEqual(space.views(), [(), (), ()])
        self.assertEqual(space.marks(), [0])
        self.assertIsNone(space.back(0))

    def test_new_mark_in_the_place_of_a_removed_one(self):
        space = filled(THREE, (0, 'a'))
        space.mark()
        space.see(0, 'b')
        space.mark()
        space.back(0)
        space.see(1, 'c')
        self.assertEqual(space.mark(), 1)
        space.see(1, 'c')
        space.back(1)
        self.assertEqual(space.views(), [('a',), ('c',), ()])

    def test_invalid_marks(self):
        space = filled(THREE, (0, 'a'))
        for many in range(3):
            for value in ODD_VALUES + [many, many + 1, -1, -many, 5, 6, '0', (0,), [0], False, True, 10 ** 30]:
                if type(value) is int and 0 <= value < many:
                    continue
                caught = self.refused(space, InvalidMark, space.back, value)
                self.assertEqual(repr(caught.number), repr(value))
            space.mark()

    def test_a_mark_changes_no_view(self):
        space = filled(THREE, (0, 'a'), (2, 'a'), (2, 'c'))
        before = space.views()
        space.mark()
        self.assertEqual(space.views(), before)


class ListsTest(WorkspaceCase):

    def test_new_lists(self):
        space = filled(THREE, (0, 'a'), (0, 'b'), (2, 'a'))
        space.mark()
        calls = [space.views, space.marks, lambda: space.possible_next(0), lambda: space.possible_next(1)]
        for call in calls:
            first = call()
            text = copy.deepcopy(first)
            self.assertIs(type(first), list)
            second = call()
            self.assertIsNot(first, second)
            second.append('spoiled')
            second.reverse()
            self.assertEqual(first, text)
            self.assertEqual(call(), text)
        kept = [call() for call in calls]
        text = copy.deepcopy(kept)
        space.see(1, 'b')
        space.mark()
        space.see(0, 'a')
        space.take_back(2)
        space.back(0)
        space.take_back(0)
        self.assertEqual(kept, text)

    def test_spoiled_lists_change_nothing(self):
        space = filled(THREE, (0, 'a'), (1, 'b'))
        space.mark()
        for _ in range(3):
            before = copy.deepcopy(state(space))
            for value in state(space):
                spoil(value)
            views = space.views()
            views[0] = ('b',)
            views.clear()
            space.marks().clear()
            self.assertEqual(state(space), before)
            space.see(2, 'a')
            space.mark()
        space.back(0)
        self.assertEqual(space.views(), [('a',), ('b',), ()])

    def test_views_are_tuples(self):
        space = filled(THREE, (0, 'a'), (1, 'b'))
        self.assertEqual([type(view) for view in space.views()], [tuple] * 3)
        self.assertIs(type(space.case()), tuple)
        self.assertEqual([type(pair) for pair in space.case()], [tuple] * 3)
        self.assertIs(type(space.log()), tuple)


class TwoWorkspacesTest(WorkspaceCase):

    def test_no_influence(self):
        family = (('a', 'b'), ('a', 'b'))
        one, other = Workspace(family), Workspace(family)
        one.see(0, 'a')
        one.mark()
        other.see(1, 'b')
        self.assertEqual(one.views(), [('a',), ()])
        self.assertEqual(other.views(), [(), ('b',)])
        self.assertEqual([one.marks(), other.marks()], [[0], []])
        self.refused(other, InvalidMark, other.back, 0)
        self.assertEqual(other.mark(), 0)
        one.see(1, 'a')
        other.back(0)
        self.assertEqual(other.views(), [(), ('b',)])
        self.assertEqual(one.views(), [('a',), ('a',)])


class HistoryTest(WorkspaceCase):
    """Long histories of calls against the model."""

    def one_call(self, rng, space, model):
        odd = rng.choice(ODD_VALUES + [len(model.family), -1, True, False])
        observer = odd if rng.random() < 0.06 else rng.randrange(len(model.family))
        kind = rng.random()
        if kind < 0.6:
            names = model.family[observer] if model.is_observer(observer) else ABC
            name = rng.choice([odd, 'q', 'x', 'a']) if rng.random() < 0.08 else rng.choice(names)
            found, right = answer(space.see, observer, name), model.see(observer, name)
        elif kind < 0.74:
            found, right = answer(space.take_back, observer), model.take_back(observer)
        elif kind < 0.84:
            found, right = answer(space.mark), model.mark()
        elif kind < 0.92:
            number = odd if rng.random() < 0.2 else rng.randint(-1, 6)
            found, right = answer(space.back, number), model.back(number)
        else:
            found, right = answer(space.possible_next, observer), model.possible_next(observer)
        self.assertEqual(repr(found), repr(right))
        return right[0] if type(right) is tuple else None

    def run_history(self, rng, family, calls, errors):
        space, model = Workspace(family), Model(family)
        other = filled(family, (0, family[0][0]))
        other_state = copy.deepcopy(state(other))
        kept = []
        for at in range(calls):
            error = self.one_call(rng, space, model)
            errors[error] = errors.get(error, 0) + 1
            if at % 5 == 0:
                found = state(space)
                self.assertEqual(found, model_state(model))
                self.assertIsNotNone(space.log())
                kept.append((found, copy.deepcopy(found)))
            if at % 9 == 0:
                for value in state(space):
                    spoil(value)
            else:
                self.assertEqual(space.views(), model.views)
        for found, text in kept:
            self.assertEqual(found, text)
        self.assertEqual(state(space), model_state(model))
        self.assertEqual(state(other), other_state)

    def test_histories(self):
        rng = random.Random(121)
        errors = {}
        for at in range(70):
            family = cycle_family(rng, 3 + at // 2 % 4) if at % 2 else random_family(rng)
            self.run_history(rng, family, 90, errors)
        for error in (InvalidObserver, NotSeen, Contradiction, NothingSeen, Full, InvalidMark):
            self.assertGreater(errors[error], 20, error)

    def test_long_views(self):
        rng = random.Random(122)
        errors = {}
        for family in [(('a',), ('a', 'b')), (('a', 'b'),), (('a', 'b'), ('b', 'c')), (('x',),) * 3]:
            for _ in range(3):
                self.run_history(rng, family, 160, errors)
        self.assertGreater(errors[TooLong], 20)

    def test_next_is_what_see_accepts(self):
        rng = random.Random(123)
        refused = 0
        for at in range(60):
            family = cycle_family(rng, 3 + at // 2 % 4) if at % 2 else random_family(rng)
            space = Workspace(family)
            for _ in range(30):
                observer = rng.randrange(len(family))
                accepted = []
                listed = space.possible_next(observer)
                for name in family[observer]:
                    if answer(space.see, observer, name) is None:
                        accepted.append(name)
                        space.take_back(observer)
                    else:
                        refused += 1
                self.assertEqual(listed, accepted)
                self.assertEqual(space.possible_next(observer), accepted)
                if accepted:
                    space.see(observer, rng.choice(accepted))
        self.assertGreater(refused, 100)

    def test_what_others_have_seen_comes_first(self):
        space = filled((ABC, ABC, ('c', 'd')), (0, 'b'), (0, 'a'))
        self.assertEqual([space.possible_next(at) for at in range(3)], [['a', 'b', 'c'], ['b'], ['c', 'd']])
        self.refused(space, Contradiction, space.see, 1, 'a')
        self.refused(space, Contradiction, space.see, 1, 'c')
        space.see(2, 'd')
        space.see(1, 'b')
        self.assertEqual([space.possible_next(at) for at in range(3)], [['a', 'b', 'c'], ['a'], ['c', 'd']])


if __name__ == '__main__':
    unittest.main()
