"""Points 5 and 34: the classes of errors."""

import unittest

from boxfall import errors
from boxfall.errors import (BadForm, BadName, BadRule, BadText, BadTruth, BoxError, NoActs,
                            NoPlayer, NoRow)

WITH_NAME = (NoRow, BadName, NoPlayer, BadTruth)
WITH_NOTHING = (BadText, NoActs, BadRule)
ALL = (BadForm,) + WITH_NAME + WITH_NOTHING


def deep_list():
    deep = []
    for _ in range(5000):
        deep = [deep]
    return deep


class Classes(unittest.TestCase):
    def test_base(self):
        self.assertEqual(BoxError.__bases__, (ValueError,))

    def test_direct_subclasses(self):
        for error in ALL:
            self.assertEqual(error.__bases__, (BoxError,), error)

    def test_none_is_another(self):
        for one in ALL:
            for other in ALL:
                self.assertEqual(issubclass(one, other), one is other)

    def test_names(self):
        told = ["BadForm", "NoRow", "BadName", "NoPlayer", "BadTruth", "BadText", "NoActs", "BadRule"]
        self.assertEqual([error.__name__ for error in ALL], told)
        for error in ALL + (BoxError,):
            self.assertIs(getattr(errors, error.__name__), error)
            self.assertEqual(error.__module__, "boxfall.errors")

    def test_no_further_errors(self):
        found = {name for name, thing in vars(errors).items()
                 if isinstance(thing, type) and issubclass(thing, Exception)}
        self.assertEqual(found, {error.__name__ for error in ALL + (BoxError,)})


class Attributes(unittest.TestCase):
    things = (0, -3, 10 ** 5000, True, False, None, "", "p", "p" * 100000, "me", b"p", 1.5,
              (), (1, 2, 1), (1,) * 100000, ("me", None), [], [1, [2, ()]], {"p": [1]}, {1, 2},
              object(), ValueError, ValueError("p"), deep_list())

    def check(self, error, name):
        for thing in self.things:
            for made in (error(thing), error(**{name: thing})):
                self.assertIs(getattr(made, name), thing)
                self.assertEqual(list(vars(made)), [name])

    def test_path(self):
        self.check(BadForm, "path")

    def test_name(self):
        for error in WITH_NAME:
            self.check(error, "name")

    def test_needed(self):
        for error in (BadForm,) + WITH_NAME:
            with self.assertRaises(TypeError):
                error()

    def test_nothing(self):
        for error in WITH_NOTHING + (BoxError,):
            self.assertEqual(vars(error()), {})
            for name in ("path", "name"):
                self.assertFalse(hasattr(error(), name))

    def test_others_attribute(self):
        self.assertFalse(hasattr(BadForm(()), "name"))
        for error in WITH_NAME:
            self.assertFalse(hasattr(error("p"), "path"))

    def test_each_keeps_its_own(self):
        one, other = NoRow("p"), NoRow("q")
        self.assertEqual((one.name, other.name), ("p", "q"))

    def test_raised_and_caught(self):
        for error in (BadForm,) + WITH_NAME:
            for base in (error, BoxError, ValueError):
                with self.assertRaises(base) as caught:
                    raise error((1, "p"))
                self.assertIn((1, "p"), vars(caught.exception).values())
        for error in WITH_NOTHING:
            for base in (error, BoxError, ValueError):
                with self.assertRaises(base):
                    raise error()


if __name__ == "__main__":
    unittest.main()
