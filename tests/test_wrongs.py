"""The errors of partviews/wrongs.py."""

import unittest

from partviews import errors, wrongs

NAMES = ['InvalidQuestion', 'InvalidGroup', 'NotARecord']


class WrongsTest(unittest.TestCase):

    def test_each_is_a_direct_subclass_of_the_base_alone(self):
        others = [kind for kind in vars(errors).values() if isinstance(kind, type) and kind is not errors.ViewError]
        self.assertEqual(len(others), 19)
        for name in NAMES:
            kind = getattr(wrongs, name)
            self.assertEqual(kind.__name__, name)
            self.assertEqual(kind.__module__, 'partviews.wrongs')
            self.assertEqual(kind.__bases__, (errors.ViewError,))
            further = others + [getattr(wrongs, other) for other in NAMES if other != name]
            self.assertEqual([other for other in further if issubclass(kind, other) or issubclass(other, kind)], [])
            self.assertTrue(issubclass(kind, ValueError))

    def test_created_with_a_message(self):
        for name in NAMES:
            kind = getattr(wrongs, name)
            with self.assertRaises(kind) as caught:
                raise kind('some words')
            self.assertEqual(str(caught.exception), 'some words')


if __name__ == '__main__':
    unittest.main()
