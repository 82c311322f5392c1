import unittest

from latewrite.deeds import cup_of, guard_of, holds, is_read, is_write, number_of, place_of

GREAT = int("9" * 60)
GUARDS = [None, ("when", "g", 5), ("unless", "g", 5), ("when", "x", 0), ("unless", "x", -GREAT)]
NUMBERS = [0, 1, -1, 7, GREAT, -GREAT, int("1" + "0" * 59)]


def puts():
    return [("put", "x", number, guard) for number in NUMBERS for guard in GUARDS]


def gets():
    return [("get", "a", "x", guard) for guard in GUARDS]


def swaps():
    return [("swap", "a", "x", number, guard) for number in NUMBERS for guard in GUARDS]


def stops():
    return [(word, guard) for word in ("fence", "bar") for guard in GUARDS]


class Parts(unittest.TestCase):
    def each(self, deeds, told):
        """told maps a function to what it must tell of each of the deeds."""
        for deed in deeds:
            for function, wanted in told.items():
                with self.subTest(deed=deed, function=function.__name__):
                    answer = function(deed)
                    self.assertEqual(answer, wanted)
                    self.assertIs(type(answer), type(wanted))

    def test_put(self):
        self.each(puts(), {place_of: "x", is_write: True, is_read: False, cup_of: None})

    def test_get(self):
        self.each(gets(), {place_of: "x", is_write: False, is_read: True, cup_of: "a", number_of: None})

    def test_swap(self):
        self.each(swaps(), {place_of: "x", is_write: True, is_read: True, cup_of: "a"})

    def test_fence_and_bar(self):
        told = {place_of: None, is_write: False, is_read: False, cup_of: None, number_of: None}
        self.each(stops(), told)

    def test_number_of_what_writes(self):
        for number in NUMBERS:
            for guard in GUARDS:
                self.each([("put", "x", number, guard), ("swap", "a", "x", number, guard)], {number_of: number})

    def test_guard(self):
        for guard in GUARDS:
            deeds = [
                ("put", "x", 1, guard),
                ("get", "a", "x", guard),
                ("swap", "a", "x", 1, guard),
                ("fence", guard),
                ("bar", guard),
            ]
            self.each(deeds, {guard_of: guard})

    def test_cup_called_like_its_place(self):
        for guard in GUARDS:
            self.each([("get", "x", "x", guard), ("swap", "x", "x", 2, guard)], {place_of: "x", cup_of: "x"})

    def test_names_that_are_words_of_deeds_and_guards(self):
        guard = ("when", "unless", 1)
        self.each([("put", "swap", 1, guard)], {place_of: "swap", is_write: True, is_read: False, cup_of: None})
        self.each([("get", "put", "fence", guard)], {place_of: "fence", cup_of: "put", is_write: False})
        self.each([("swap", "get", "bar", 3, guard)], {place_of: "bar", cup_of: "get", number_of: 3})

    def test_names_of_eight_letters(self):
        self.each([("get", "abcdefgh", "zyxwvuts", None)], {place_of: "zyxwvuts", cup_of: "abcdefgh"})


class Holds(unittest.TestCase):
    def asked(self, guard, cups):
        """The answer, once it is sure that it is a truth and that cups stayed as it was."""
        kept = dict(cups)
        answer = holds(guard, cups)
        self.assertIsInstance(answer, bool)
        self.assertEqual(list(cups.items()), list(kept.items()))
        return answer

    def test_none_always_holds(self):
        for cups in ({}, {"a": 0}, {"a": 1, "b": -7}):
            with self.subTest(cups):
                self.assertIs(self.asked(None, cups), True)

    def test_just_the_number_and_those_beside_it(self):
        for number in NUMBERS:
            for had, same in ((number - 1, False), (number, True), (number + 1, False), (-number, number == 0)):
                with self.subTest(number=number, had=had):
                    self.assertIs(self.asked(("when", "a", number), {"a": had}), same)
                    self.assertIs(self.asked(("unless", "a", number), {"a": had}), not same)

    def test_cup_that_is_not_there_has_nought(self):
        for cups in ({}, {"b": 3}, {"aa": 3, "b": 4}):
            for number, same in ((0, True), (1, False), (-1, False), (3, False), (GREAT, False)):
                with self.subTest(cups=cups, number=number):
                    self.assertIs(self.asked(("when", "a", number), cups), same)
                    self.assertIs(self.asked(("unless", "a", number), cups), not same)

    def test_only_the_cup_that_is_named_counts(self):
        cups = {"a": 1, "aa": 2, "b": 3}
        for name, number in cups.items():
            for other in (1, 2, 3):
                with self.subTest(name=name, other=other):
                    self.assertIs(self.asked(("when", name, other), cups), number == other)
                    self.assertIs(self.asked(("unless", name, other), cups), number != other)

    def test_cups_called_like_the_words(self):
        cups = {"when": 1, "unless": 2}
        self.assertIs(self.asked(("when", "unless", 2), cups), True)
        self.assertIs(self.asked(("unless", "when", 1), cups), False)

    def test_number_changed_later_counts_in_the_next_call(self):
        cups = {}
        self.assertIs(self.asked(("when", "a", 4), cups), False)
        self.assertIs(self.asked(("unless", "a", 4), cups), True)
        cups["a"] = 4
        self.assertIs(self.asked(("when", "a", 4), cups), True)
        self.assertIs(self.asked(("unless", "a", 4), cups), False)
        cups["a"] = 5
        self.assertIs(self.asked(("when", "a", 4), cups), False)
        self.assertIs(self.asked(("unless", "a", 4), cups), True)


if __name__ == "__main__":
    unittest.main()
