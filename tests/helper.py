"""What several test files need: a case that looks at errors closely, and wrong values."""

import copy
import unittest

from cellsatonce.errors import BadPromise, BadSetting, CellError


def nested(wrap, depth):
    """A value nested this deep, each level made by wrap."""
    value = wrap(0)
    for _ in range(depth - 1):
        value = wrap(value)
    return value


# Values of all kinds that may stand where an error is named ([1.5]). None of them is a name, a
# word of the package, a row of one of its forms or an integer from 0 to 5.
ODD_VALUES = [
    True, False, None, -1, 6, 10 ** 39, -(10 ** 39),
    "", "A", "a b", "0", "1", "x" * 4000, "caf\u00e9", "\uff41", "x\n", "Safe", "writer ",
    [], (), {}, [0], (0,), [[]], ((),), [None], ("",), {"a": 1}, {0: (2, 0)}, {None: None}, {(): []},
    nested(lambda value: [value], 90),
    nested(lambda value: (value,), 90),
    nested(lambda value: {"a": value}, 90),
    nested(lambda value: ["write", value], 90),
    nested(lambda value: [{"a": (value,)}], 30),
]

NO_PROMISES = ODD_VALUES + ["none", "Atomic", "regular ", "writer", ["safe"], ("atomic",), 0, 1, 2]
# Of the odd values, the 6 alone is a limit.
NO_LIMITS = [value for value in ODD_VALUES if value != 6] + [0, 3001, "3000", [1], (1,), {1: 1}]


class Case(unittest.TestCase):
    """A test case that knows the errors of the package."""

    def raises(self, error, call, *args, **kwargs):
        """The call raises just this error, with just these attributes, and changes no argument."""
        before = copy.deepcopy((args, kwargs))
        with self.assertRaises(CellError) as caught:
            call(*args, **kwargs)
        self.assertIs(type(caught.exception), type(error))
        self.assertEqual(vars(caught.exception), vars(error))
        for name, value in vars(error).items():
            self.assertIs(type(getattr(caught.exception, name)), type(value))
        self.assertEqual((args, kwargs), before)

    def raises_for_limits(self, call):
        """The call raises an error for each wrong limit."""
        for value in NO_LIMITS:
            with self.subTest(limit=str(value)[:40]):
                self.raises(BadSetting("limit"), call, limit=value)

    def raises_for_promises(self, call):
        """The call raises an error for each wrong promise."""
        for value in NO_PROMISES:
            with self.subTest(promise=str(value)[:40]):
                self.raises(BadPromise(), call, value)

    def raises_for_odd(self, error, call):
        """The call raises this error for each odd value."""
        for value in ODD_VALUES:
            with self.subTest(value=str(value)[:40]):
                self.raises(error, call, value)
