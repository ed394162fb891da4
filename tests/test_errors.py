"""[4]: the error classes, and what they keep."""

import unittest

from everylevel import errors

WITH_NOTHING = ("InvalidLevel", "InvalidDemand", "InvalidCommand")
WITH_ONE = {
    "InvalidBook": "word", "InvalidText": "at", "InvalidNumbers": "at", "InvalidDefinition": "word",
    "InvalidLibrary": "at", "NoDemand": "at", "Clash": "at", "NoName": "name",
}


class Errors(unittest.TestCase):

    def test_bases(self):
        self.assertEqual(errors.LevelError.__bases__, (ValueError,))
        self.assertEqual(errors.NoName.__bases__, (KeyError,))
        for name in [*WITH_NOTHING, *WITH_ONE]:
            if name != "NoName":
                self.assertEqual(getattr(errors, name).__bases__, (errors.LevelError,), name)

    def test_without_arguments(self):
        for name in WITH_NOTHING:
            with self.assertRaises(errors.LevelError) as caught:
                raise getattr(errors, name)()
            self.assertIs(type(caught.exception), getattr(errors, name))

    def test_arguments_are_kept_themselves(self):
        for name, word in WITH_ONE.items():
            for thing in ("u", 3, None, True, ["u"], {}, object(), ("u", [1])):
                for error in (getattr(errors, name)(thing), getattr(errors, name)(**{word: thing})):
                    self.assertIs(getattr(error, word), thing, name)

    def test_one_argument_is_needed(self):
        for name in WITH_ONE:
            with self.assertRaises(TypeError):
                getattr(errors, name)()
            with self.assertRaises(TypeError):
                getattr(errors, name)(1, 2)

    def test_caught_as_python_errors(self):
        with self.assertRaises(ValueError):
            raise errors.InvalidNumbers(2)
        with self.assertRaises(KeyError):
            raise errors.NoName("u")
        self.assertNotIsInstance(errors.NoName("u"), errors.LevelError)

    def test_later_changes_show(self):
        kept = ["u"]
        error = errors.InvalidBook(kept)
        kept.append("v")
        self.assertEqual(error.word, ["u", "v"])


if __name__ == "__main__":
    unittest.main()
