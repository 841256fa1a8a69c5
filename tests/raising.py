"""One helper for tests of errors."""

import unittest


class RaisingTest(unittest.TestCase):
    """A test that can ask for an error together with its attributes."""

    def assert_error(self, error, call, *passed, **named):
        """Assert that a call raises an error of just this class with just these attributes."""
        with self.assertRaises(type(error)) as caught:
            call(*passed, **named)
        self.assertIs(type(caught.exception), type(error))
        got, wanted = vars(caught.exception), vars(error)
        self.assertEqual(got, wanted)
        # 1 and True are equal, but not the same value.
        for name, value in wanted.items():
            self.assertIs(type(got[name]), type(value))
