"""Point 2 and partviews/errors.py."""

import copy
import unittest

from partviews import errors
from tests.samples import ODD_VALUES

WITH_MESSAGE = [
    'InvalidNames', 'InvalidFamily', 'InvalidLog', 'InvalidCase', 'InvalidNumber', 'InvalidRing', 'CountConflict',
    'Impossible', 'NotUndecided', 'Contradiction', 'NothingSeen', 'TooLong', 'TooMany', 'NotACertificate',
]
WITH_ARGUMENT = {
    'UnknownEvent': 'event', 'InvalidObserver': 'number', 'NotSeen': 'name', 'Full': 'limit', 'InvalidMark': 'number',
}
ALL = WITH_MESSAGE + list(WITH_ARGUMENT)


class ErrorTest(unittest.TestCase):

    def test_base(self):
        self.assertEqual(errors.ViewError.__bases__, (ValueError,))
        self.assertEqual(errors.ViewError.__module__, 'partviews.errors')

    def test_each_is_a_direct_subclass_of_the_base_alone(self):
        for name in ALL:
            kind = getattr(errors, name)
            self.assertEqual(kind.__name__, name)
            self.assertEqual(kind.__module__, 'partviews.errors')
            self.assertEqual(kind.__bases__, (errors.ViewError,))
            others = [other for other in ALL if other != name and issubclass(kind, getattr(errors, other))]
            self.assertEqual(others, [])

    def test_all_are_different(self):
        self.assertEqual(len({getattr(errors, name) for name in ALL}), 19)

    def test_created_with_a_message(self):
        for name in WITH_MESSAGE:
            kind = getattr(errors, name)
            with self.assertRaises(kind) as caught:
                raise kind('some words')
            self.assertEqual(str(caught.exception), 'some words')

    def test_argument_is_kept(self):
        for name, attribute in WITH_ARGUMENT.items():
            kind = getattr(errors, name)
            for value in ODD_VALUES + [6, ('a', 1), (), 'b']:
                before = copy.deepcopy(value)
                error = kind(value)
                kept = getattr(error, attribute)
                self.assertIs(type(kept), type(before))
                self.assertEqual(repr(kept), repr(before))
                self.assertEqual(repr(value), repr(before))
                self.assertIsInstance(error, ValueError)

    def test_each_object_keeps_its_own(self):
        for name, attribute in WITH_ARGUMENT.items():
            kind = getattr(errors, name)
            first, second = kind('one'), kind('two')
            self.assertEqual(getattr(first, attribute), 'one')
            self.assertEqual(getattr(second, attribute), 'two')


if __name__ == '__main__':
    unittest.main()
