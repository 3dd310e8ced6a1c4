import unittest

from spareblocks import errors
from spareblocks.drives import Drive
from tests.helper import integers_of_many_sizes, values_of_many_kinds

PYTHON_CLASSES = {"BadValue": ValueError, "BadName": LookupError, "NoAnswer": ArithmeticError}

# name: base class, attributes
CLASSES = {
    "InvalidBlocks": ("BadValue", ("given",)),
    "InvalidPages": ("BadValue", ("given",)),
    "InvalidNames": ("BadValue", ("given",)),
    "InvalidPrice": ("BadValue", ("given",)),
    "InvalidNumber": ("BadValue", ("given",)),
    "InvalidFlag": ("BadValue", ("given",)),
    "InvalidDrift": ("BadValue", ("given",)),
    "InvalidText": ("BadValue", ("given",)),
    "InvalidName": ("BadValue", ("given",)),
    "InvalidIndex": ("BadValue", ("given",)),
    "InvalidClaim": ("BadValue", ("given",)),
    "NotADrive": ("BadValue", ("given",)),
    "InvalidRows": ("BadValue", ("index",)),
    "InvalidLoad": ("BadValue", ("index",)),
    "UnknownName": ("BadName", ("given",)),
    "InUse": ("BadName", ("index",)),
    "OtherNames": ("NoAnswer", ()),
    "Sticks": ("NoAnswer", ()),
    "TooMany": ("NoAnswer", ("limit",)),
    "NothingToUndo": ("NoAnswer", ()),
    "NotAsked": ("NoAnswer", ("index",)),
    "Broken": ("NoAnswer", ("index", "shown")),
}


def own_classes(error_class):
    return {base.__name__ for base in error_class.__mro__ if base.__module__.startswith("spareblocks")}


class ErrorsTest(unittest.TestCase):
    def test_each_class_belongs_to_its_base_and_to_no_other_class(self):
        for name, (base, attributes) in CLASSES.items():
            with self.subTest(name=name):
                error_class = getattr(errors, name)
                self.assertEqual({name, base}, own_classes(error_class))
                self.assertTrue(issubclass(error_class, PYTHON_CLASSES[base]))
                others = [python_class for python_class in PYTHON_CLASSES.values()
                          if python_class is not PYTHON_CLASSES[base]]
                self.assertFalse(issubclass(error_class, tuple(others)))

    def test_base_classes(self):
        for name, python_class in PYTHON_CLASSES.items():
            with self.subTest(name=name):
                base = getattr(errors, name)
                self.assertEqual((python_class,), base.__bases__)
                self.assertEqual({name}, own_classes(base))
                self.assertIsInstance(base(), base)

    def test_there_are_no_other_error_classes(self):
        found = {name for name, value in vars(errors).items() if isinstance(value, type)}
        self.assertEqual(set(CLASSES) | set(PYTHON_CLASSES), found)

    def test_attributes_are_kept_by_position_and_by_name(self):
        values = values_of_many_kinds() + integers_of_many_sizes() + [Drive.simple(3, 2, 1)]
        for name, (base, attributes) in CLASSES.items():
            for at, value in enumerate(values):
                with self.subTest(name=name, at=at):
                    given = (value, values[at - 1])[:len(attributes)]
                    by_position = getattr(errors, name)(*given)
                    by_name = getattr(errors, name)(**dict(zip(attributes, given)))
                    for attribute, kept in zip(attributes, given):
                        self.assertIs(kept, getattr(by_position, attribute))
                        self.assertIs(kept, getattr(by_name, attribute))

    def test_two_attributes_by_name_in_any_order(self):
        error = errors.Broken(shown="a", index=1)
        self.assertEqual((1, "a"), (error.index, error.shown))

    def test_errors_can_be_raised_and_caught_by_each_class_above(self):
        for name, (base, attributes) in CLASSES.items():
            for caught in (getattr(errors, name), getattr(errors, base), PYTHON_CLASSES[base]):
                with self.subTest(name=name, caught=caught.__name__):
                    with self.assertRaises(caught):
                        raise getattr(errors, name)(*attributes)


if __name__ == "__main__":
    unittest.main()
