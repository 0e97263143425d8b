import unittest

from doneroom import errors
from doneroom.errors import RoomError

MADE_OF_TEXT = ("NoProgram", "NoWord", "NoPlace", "TooBig", "NoRow", "NoName")
ALL = MADE_OF_TEXT + ("NoText",)


def made(name):
    return errors.NoText(3) if name == "NoText" else getattr(errors, name)("why")


class ErrorTests(unittest.TestCase):
    def test_each_is_taken_as_the_base_and_as_value_error(self):
        for name in ALL:
            for base in (RoomError, ValueError, getattr(errors, name)):
                with self.subTest(name=name, base=base), self.assertRaises(base):
                    raise made(name)

    def test_none_is_taken_as_another(self):
        for name in ALL:
            for other in ALL:
                with self.subTest(name=name, other=other):
                    self.assertIs(isinstance(made(name), getattr(errors, other)), name == other)

    def test_the_base_stands_under_value_error_and_none_of_the_seven(self):
        self.assertTrue(issubclass(RoomError, ValueError))
        for name in ALL:
            self.assertFalse(isinstance(RoomError("why"), getattr(errors, name)))
            self.assertIsNot(getattr(errors, name), RoomError)

    def test_no_text_has_its_number(self):
        for at in (0, 1, 7, 4999):
            refusal = errors.NoText(at)
            self.assertIs(type(refusal.at), int)
            self.assertEqual(refusal.at, at)

    def test_the_others_keep_their_text(self):
        for name in MADE_OF_TEXT:
            self.assertIn("some words", str(getattr(errors, name)("some words")))


if __name__ == "__main__":
    unittest.main()
