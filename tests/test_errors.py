import unittest

from latewrite import errors
from latewrite.errors import LateError, NoText

PLAIN = ["TooGreat", "NoMove", "NotEnded", "NoTale", "NoOrder", "NoGap", "NoRun", "NoRow", "NoName"]


def refusals():
    """Every refusal but LateError itself, one new object of each by its class's name."""
    made = {name: getattr(errors, name)() for name in PLAIN}
    made["NoText"] = NoText(3)
    return made


class Classes(unittest.TestCase):
    def test_late_error_stands_straight_under_value_error(self):
        self.assertEqual(LateError.__bases__, (ValueError,))

    def test_each_stands_straight_under_late_error(self):
        for name, error in refusals().items():
            with self.subTest(name):
                self.assertEqual(type(error).__bases__, (LateError,))

    def test_none_stands_under_another(self):
        made = refusals()
        for one in made:
            for other in made:
                if one != other:
                    with self.subTest(one=one, other=other):
                        self.assertNotIsInstance(made[one], type(made[other]))

    def test_each_bears_its_own_name(self):
        for name, error in refusals().items():
            with self.subTest(name):
                self.assertEqual(type(error).__name__, name)


class Taken(unittest.TestCase):
    def taken_as(self, kind, error):
        try:
            raise error
        except kind as taken:
            return taken

    def test_each_is_taken_as_late_error_and_as_value_error(self):
        for name, error in refusals().items():
            for kind in (LateError, ValueError, type(error)):
                with self.subTest(name, kind=kind.__name__):
                    self.assertIs(self.taken_as(kind, error), error)

    def test_late_error_is_taken_as_value_error_but_as_none_of_the_others(self):
        error = LateError("words")
        self.assertIs(self.taken_as(ValueError, error), error)
        for name, other in refusals().items():
            with self.subTest(name):
                self.assertNotIsInstance(error, type(other))

    def test_a_plain_value_error_is_no_refusal(self):
        self.assertNotIsInstance(ValueError("words"), LateError)

    def test_words_may_be_given(self):
        for name in PLAIN:
            with self.subTest(name):
                self.assertEqual(str(getattr(errors, name)("some words")), "some words")


class NoTexts(unittest.TestCase):
    def test_hand_is_the_number_it_was_made_with(self):
        for hand in (0, 1, 5, 6, 4000):
            with self.subTest(hand):
                self.assertEqual(NoText(hand).hand, hand)

    def test_each_keeps_its_own_hand(self):
        one = NoText(1)
        other = NoText(2)
        self.assertEqual((one.hand, other.hand), (1, 2))

    def test_hand_is_there_where_it_is_taken(self):
        for kind in (NoText, LateError, ValueError):
            with self.subTest(kind.__name__):
                with self.assertRaises(kind) as caught:
                    raise NoText(4)
                self.assertEqual(caught.exception.hand, 4)

    def test_it_is_not_made_without_a_hand(self):
        with self.assertRaises(TypeError):
            NoText()


if __name__ == "__main__":
    unittest.main()
