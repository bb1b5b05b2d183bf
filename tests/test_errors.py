import unittest

from nextguess import errors
from nextguess.errors import GuessError, InvalidText, NothingToUndo, Undefined

OF_VALUE = (
    "InvalidNumber", "InvalidShare", "InvalidRow", "InvalidLot", "InvalidRules", "InvalidPart", "InvalidGuess",
    "InvalidShown", "InvalidPoint", "InvalidSource", "InvalidPoints", "InvalidMove", "InvalidQuestion",
)
NAMES = OF_VALUE + ("InvalidText", "Undefined", "NothingToUndo")


def arguments_of(name):
    """The names of the arguments of an error class."""
    if name in OF_VALUE:
        return ("value",)
    return {"InvalidText": ("text", "at"), "Undefined": ("what",), "NothingToUndo": ("word",)}[name]


class Errors(unittest.TestCase):
    def test_there_are_sixteen(self):
        self.assertEqual(len(set(NAMES)), 16)

    def test_guess_error_is_a_value_error(self):
        self.assertEqual(GuessError.__bases__, (ValueError,))

    def test_each_stands_directly_under_guess_error(self):
        for name in NAMES:
            self.assertEqual(getattr(errors, name).__bases__, (GuessError,), name)

    def test_an_error_is_none_of_the_other_fifteen(self):
        for name in NAMES:
            error = getattr(errors, name)(*[1 for _ in arguments_of(name)])
            self.assertIsInstance(error, ValueError)
            self.assertIsInstance(error, GuessError)
            kinds = [other for other in NAMES if isinstance(error, getattr(errors, other))]
            self.assertEqual(kinds, [name])

    def test_arguments_are_kept_by_position_and_by_name(self):
        for name in NAMES:
            wanted = arguments_of(name)
            values = [["kept", k] for k in range(len(wanted))]
            by_position = getattr(errors, name)(*values)
            by_name = getattr(errors, name)(**dict(zip(wanted, values)))
            for error in (by_position, by_name):
                for argument, value in zip(wanted, values):
                    self.assertIs(getattr(error, argument), value, name)

    def test_a_changed_list_is_seen_in_the_error(self):
        for name in OF_VALUE:
            kept = [1]
            error = getattr(errors, name)(kept)
            kept.append(2)
            self.assertEqual(error.value, [1, 2])

    def test_no_argument_too_few_or_too_many(self):
        for name in NAMES:
            many = len(arguments_of(name))
            self.assertRaises(TypeError, getattr(errors, name))
            self.assertRaises(TypeError, getattr(errors, name), *[1] * (many + 1))

    def test_texts_and_words(self):
        error = InvalidText("points 1", 8)
        self.assertEqual((error.text, error.at), ("points 1", 8))
        self.assertEqual(Undefined("nought").what, "nought")
        self.assertEqual(NothingToUndo("undo").word, "undo")

    def test_each_can_be_raised_and_caught_as_guess_error(self):
        for name in NAMES:
            with self.assertRaises(GuessError) as caught:
                raise getattr(errors, name)(*[None for _ in arguments_of(name)])
            self.assertEqual(caught.exception.__class__.__name__, name)
