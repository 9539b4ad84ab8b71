import unittest

from cellsatonce import errors
from cellsatonce.errors import CellError

ATTRIBUTES = {
    "BadHistory": ["index"],
    "BadSetting": ["part"],
    "BadPromise": [],
    "NoRead": [],
    "BadCell": ["part"],
    "BadProgram": ["place", "why"],
    "BadHouse": ["why"],
    "BadStep": ["index"],
    "TooMany": ["limit"],
    "NoPromise": [],
    "BadLot": [],
    "NotLeast": ["index"],
    "NoCase": ["why"],
    "BadText": ["line"],
}


class ErrorsTest(unittest.TestCase):
    """[1.4]"""

    def test_there_are_fourteen(self):
        self.assertEqual(len(ATTRIBUTES), 14)
        found = [name for name, value in vars(errors).items() if isinstance(value, type)]
        self.assertEqual(sorted(found), sorted(list(ATTRIBUTES) + ["CellError"]))

    def test_the_base_class(self):
        self.assertEqual(CellError.__bases__, (ValueError,))

    def test_each_is_a_direct_subclass(self):
        for name in ATTRIBUTES:
            with self.subTest(name=name):
                self.assertEqual(getattr(errors, name).__bases__, (CellError,))

    def test_each_is_caught_as_itself_and_as_no_other(self):
        for name, attributes in ATTRIBUTES.items():
            error = getattr(errors, name)(*range(len(attributes)))
            self.assertIsInstance(error, CellError)
            self.assertIsInstance(error, ValueError)
            for other in ATTRIBUTES:
                with self.subTest(name=name, other=other):
                    self.assertEqual(isinstance(error, getattr(errors, other)), name == other)

    def test_attributes_in_the_order_of_the_arguments(self):
        for name, attributes in ATTRIBUTES.items():
            with self.subTest(name=name):
                given = [f"{name} {k}" for k in range(len(attributes))]
                error = getattr(errors, name)(*given)
                self.assertEqual(vars(error), dict(zip(attributes, given)))

    def test_each_takes_no_more_and_no_less(self):
        for name, attributes in ATTRIBUTES.items():
            with self.subTest(name=name):
                if attributes:
                    with self.assertRaises(TypeError):
                        getattr(errors, name)(*range(len(attributes) - 1))
                    with self.assertRaises(TypeError):
                        getattr(errors, name)(*range(len(attributes) + 1))


if __name__ == "__main__":
    unittest.main()
