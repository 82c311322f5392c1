import copy
import random
import unittest

from latewrite.errors import NoText, TooGreat
from latewrite.texts import read, shown

GREAT = int("9" * 60)
EXAMPLE = (
    "put x 1; get a y | swap b y -7 unless b 3; fence; get a x when b 0 | put y 2; bar; put x 12 | idle"
)
EXAMPLE_PROGRAM = [
    [("put", "x", 1, None), ("get", "a", "y", None)],
    [("swap", "b", "y", -7, ("unless", "b", 3)), ("fence", None), ("get", "a", "x", ("when", "b", 0))],
    [("put", "y", 2, None), ("bar", None), ("put", "x", 12, None)],
    [],
]

# Each text with the program that it tells.
PAIRS = [
    ("idle", [[]]),
    ("fence", [[("fence", None)]]),
    ("bar", [[("bar", None)]]),
    ("put x 0", [[("put", "x", 0, None)]]),
    ("get a a", [[("get", "a", "a", None)]]),
    ("swap a x 10", [[("swap", "a", "x", 10, None)]]),
    ("put x -1 when b -10", [[("put", "x", -1, ("when", "b", -10))]]),
    ("get a x unless a 0", [[("get", "a", "x", ("unless", "a", 0))]]),
    ("swap a x 5 when c 7", [[("swap", "a", "x", 5, ("when", "c", 7))]]),
    ("fence when a 1; bar unless a 1", [[("fence", ("when", "a", 1)), ("bar", ("unless", "a", 1))]]),
    ("put abcdefgh 1", [[("put", "abcdefgh", 1, None)]]),
    ("get zyxwvuts qponmlkj", [[("get", "zyxwvuts", "qponmlkj", None)]]),
    ("put x " + "9" * 60, [[("put", "x", GREAT, None)]]),
    ("put x -" + "9" * 60, [[("put", "x", -GREAT, None)]]),
    ("put x 1" + "0" * 59, [[("put", "x", 10 ** 59, None)]]),
    ("bar when a -1" + "0" * 59, [[("bar", ("when", "a", -10 ** 59))]]),
    ("idle | idle", [[], []]),
    ("idle | put x 1 | idle", [[], [("put", "x", 1, None)], []]),
    ("fence; fence; bar; bar", [[("fence", None), ("fence", None), ("bar", None), ("bar", None)]]),
    # Names that are words of deeds and guards.
    ("put when 1 when when 1", [[("put", "when", 1, ("when", "when", 1))]]),
    ("get a when", [[("get", "a", "when", None)]]),
    ("get unless when unless idle 2", [[("get", "unless", "when", ("unless", "idle", 2))]]),
    ("swap put get 3; put fence 4; get idle bar", [[
        ("swap", "put", "get", 3, None), ("put", "fence", 4, None), ("get", "idle", "bar", None),
    ]]),
    (" | ".join(["idle"] * 6), [[], [], [], [], [], []]),
    (EXAMPLE, EXAMPLE_PROGRAM),
]

# Hands that are none.
NO_HANDS = [
    "",
    " ",
    # Blanks.
    "put  x 1",
    "put x  1",
    "put x 1  when a 1",
    "put x 1 when  a 1",
    " put x 1",
    "put x 1 ",
    " idle",
    "idle ",
    "fence ",
    " bar",
    "put x 1;  fence",
    "put x 1 ; fence",
    "putx 1",
    # Signs between deeds.
    "put x 1;fence",
    "put x 1 fence",
    "put x 1, fence",
    "put x 1;",
    "put x 1; ",
    "; put x 1",
    ";",
    "; ",
    "fence;; fence",
    "fence; ; fence",
    "fence;bar",
    # Signs between hands.
    "|",
    "fence|bar",
    "fence |bar",
    "fence| bar",
    "idle|",
    "|idle",
    "idle |",
    "| idle",
    # Words.
    "mut x 1",
    "puts x 1",
    "Put x 1",
    "PUT x 1",
    "fences",
    "idle; fence",
    "fence; idle",
    "idle idle",
    "idle when a 1",
    "Idle",
    "when a 1",
    "x",
    "1",
    # A word too many or too few.
    "put",
    "put x",
    "put x 1 2",
    "put x 1 y",
    "put x y",
    "put 1 x",
    "put a x 1",
    "get",
    "get a",
    "get a x 1",
    "get a x y",
    "get a 1",
    "get 1 x",
    "swap",
    "swap a",
    "swap a x",
    "swap x 1",
    "swap a x 1 2",
    "swap a x y",
    "swap a 1 x",
    "fence x",
    "fence 1",
    "bar x",
    "bar fence",
    # Names.
    "put abcdefghi 1",
    "get abcdefghi x",
    "get a abcdefghi",
    "swap abcdefghi x 1",
    "swap a abcdefghi 1",
    "put X 1",
    "put xY 1",
    "put x1 1",
    "put x_y 1",
    "put x-y 1",
    "put ` 1",
    "put { 1",
    "get a x;",
    "get a. x",
    "get A x",
    # Numbers.
    "put x -0",
    "put x 00",
    "put x 01",
    "put x -01",
    "put x -00",
    "put x 000",
    "put x " + "0" * 60,
    "put x -",
    "put x --1",
    "put x 1-",
    "put x 1-1",
    "put x +1",
    "put x 1.0",
    "put x 1_0",
    "put x 0x1",
    "put x 1e3",
    "put x /",
    "put x :",
    "put x 1" + "0" * 60,
    "put x -1" + "0" * 60,
    "put x " + "9" * 61,
    "put x -" + "9" * 61,
    "put x 0" + "9" * 59,
    "swap a x -0",
    "swap a x 01",
    "swap a x " + "9" * 61,
    # Guards.
    "put x 1 when",
    "put x 1 when a",
    "put x 1 when 1",
    "put x 1 when 1 a",
    "put x 1 when a b",
    "put x 1 when a 1 1",
    "put x 1 when a 1 b",
    "put x 1 when a 1 when a 1",
    "put x 1 when a 1 unless b 1",
    "put x 1 unless",
    "put x 1 unless a",
    "put x 1 if a 1",
    "put x 1 When a 1",
    "put x 1 a 1",
    "put x 1 when abcdefghi 1",
    "put x 1 when A 1",
    "put x 1 when a -0",
    "put x 1 when a 00",
    "put x 1 unless a 01",
    "put x 1 unless a " + "9" * 61,
    "fence when a",
    "bar unless a",
    "fence when",
    "bar unless",
    "get a x when b",
    "get a x unless",
    "get a when b 1",
    "swap a x 1 when b",
    "swap a x when b 1",
]


def deed_of(chance):
    def name():
        return "".join(chance.choice("abcxyz") for letter in range(chance.choice((1, 1, 1, 2, 8))))

    def number():
        return chance.choice((0, 1, -1, 7, -12, 10, GREAT, -GREAT, 10 ** 59, chance.randint(-GREAT, GREAT)))

    guard = chance.choice((None, ("when", name(), number()), ("unless", name(), number())))
    return chance.choice((
        ("put", name(), number(), guard),
        ("get", name(), name(), guard),
        ("swap", name(), name(), number(), guard),
        ("fence", guard),
        ("bar", guard),
    ))


class Texts(unittest.TestCase):
    def same(self, one, other):
        """Alike, and of the same kinds all the way in."""
        self.assertIs(type(one), type(other))
        if isinstance(one, (list, tuple)):
            self.assertEqual(len(one), len(other))
            for part, twin in zip(one, other):
                self.same(part, twin)
        else:
            self.assertEqual(one, other)

    def refused(self, text, hand):
        with self.assertRaises(NoText) as caught:
            read(text)
        self.assertIs(type(caught.exception.hand), int)
        self.assertEqual(caught.exception.hand, hand)

    def too_great(self, text):
        with self.assertRaises(TooGreat):
            read(text)


class Pairs(Texts):
    def test_read(self):
        for text, program in PAIRS:
            with self.subTest(text):
                self.same(read(text), program)

    def test_shown(self):
        for text, program in PAIRS:
            with self.subTest(text):
                kept = copy.deepcopy(program)
                self.same(shown(program), text)
                self.same(program, kept)

    def test_programs_of_all_sizes_are_read_again(self):
        chance = random.Random(8)
        for hands in range(1, 7):
            for most in (0, 1, 2, 3, 6):
                program = [[deed_of(chance) for deed in range(chance.randint(0, most))] for h in range(hands)]
                with self.subTest(program):
                    text = shown(program)
                    self.same(read(text), program)
                    self.assertEqual(shown(read(text)), text)

    def test_forty_deeds_are_read_again(self):
        chance = random.Random(40)
        for sizes in ([40], [39, 1], [0, 40], [7, 7, 7, 7, 7, 5], [40, 0, 0, 0, 0, 0]):
            program = [[deed_of(chance) for deed in range(size)] for size in sizes]
            with self.subTest(sizes):
                self.same(read(shown(program)), program)

    def test_eighty_deeds_are_shown(self):
        program = [[("put", "x", 1, None), ("fence", None)] * 20, [("bar", None), ("get", "a", "x", None)] * 20]
        wanted = "; ".join(["put x 1; fence"] * 20) + " | " + "; ".join(["bar; get a x"] * 20)
        self.assertEqual(shown(program), wanted)


class OwnLists(Texts):
    def test_a_second_reading_behind_a_change_of_the_first(self):
        first = read(EXAMPLE)
        first[0].append(("fence", None))
        first[1].clear()
        first[3].append(("bar", None))
        first.pop(2)
        self.same(read(EXAMPLE), EXAMPLE_PROGRAM)

    def test_hands_of_one_reading_are_lists_of_their_own(self):
        program = read("idle | idle | fence | fence")
        program[0].append(("bar", None))
        program[2].clear()
        self.assertEqual(program, [[("bar", None)], [], [], [("fence", None)]])

    def test_a_program_changed_behind_its_text_changes_the_next_text_alone(self):
        program = [[("fence", None)], []]
        text = shown(program)
        program[1].append(("bar", None))
        self.assertEqual(text, "fence | idle")
        self.assertEqual(shown(program), "fence | bar")


class Refused(Texts):
    def test_each_hand_that_is_none(self):
        for text in NO_HANDS:
            with self.subTest(text):
                self.refused(text, 0)

    def test_each_sign_in_a_name_and_in_a_number(self):
        for code in range(ord(" "), ord("~") + 1):
            sign = chr(code)
            with self.subTest(sign):
                if sign in "abcdefghijklmnopqrstuvwxyz":
                    self.same(read("put x" + sign + " 1"), [[("put", "x" + sign, 1, None)]])
                else:
                    self.refused("put x" + sign + " 1", 0)
                if sign in "0123456789":
                    self.same(read("put x 1" + sign), [[("put", "x", int("1" + sign), None)]])
                else:
                    self.refused("put x 1" + sign, 0)

    def test_the_number_of_the_hand(self):
        for text in NO_HANDS:
            # A blank at an end, or a line, would shift where the hands are parted.
            if text == text.strip(" ") and text != "" and "|" not in text:
                with self.subTest(text):
                    self.refused("idle | " + text, 1)
                    self.refused("put x 1; fence | " + text + " | idle", 1)
                    self.refused("idle | fence | bar | idle | idle | " + text, 5)

    def test_the_first_of_several(self):
        self.refused("put | get", 0)
        self.refused("idle | put | get", 1)
        self.refused("idle | fence | put x -0 | idle | put x 00 | idle", 2)
        self.refused("idle | fence | bar | idle | put x 00 | 5", 4)

    def test_hands_without_signs(self):
        self.refused("", 0)
        self.refused(" | ", 0)
        self.refused(" | idle", 0)
        self.refused("idle | ", 1)
        self.refused("idle |  | idle", 1)
        self.refused("idle | idle | ", 2)

    def test_parted_from_the_left_without_a_shared_blank(self):
        self.refused("idle | | idle", 1)
        self.refused("idle | | | idle", 1)
        self.refused(" | | ", 0)
        self.refused("idle | idle | | put x 1", 2)
        self.refused("idle || idle", 0)
        self.refused("idle | fence| idle", 1)

    def test_blanks_beside_a_parting(self):
        self.refused("idle  | idle", 0)
        self.refused("idle |  idle", 1)
        self.refused("idle | idle ", 1)
        self.refused(" idle | idle", 0)

    def test_a_fault_in_a_later_deed(self):
        self.refused("idle | fence; bar; put x 1; get a x; put x", 1)
        self.refused("idle | fence; bar; ; get a x; put x 1", 1)

    def test_a_good_text_right_behind_a_refused_one(self):
        for text in ("", "put x 1 | put", "idle | | idle", "put x 1; get a x when b"):
            with self.subTest(text):
                with self.assertRaises(NoText):
                    read(text)
                self.same(read(EXAMPLE), EXAMPLE_PROGRAM)
        with self.assertRaises(TooGreat):
            read(" | ".join(["idle"] * 7))
        self.same(read(EXAMPLE), EXAMPLE_PROGRAM)


class Bounds(Texts):
    def test_six_and_seven_hands(self):
        for hand in ("idle", "fence", "put x 1; get a x"):
            with self.subTest(hand):
                self.assertEqual(len(read(" | ".join([hand] * 6))), 6)
                self.too_great(" | ".join([hand] * 7))
        self.too_great(" | ".join(["idle"] * 100))

    def test_forty_and_forty_one_deeds(self):
        for deed in ("fence", "bar", "put x 1", "get a x when b 1", "swap a x 1"):
            with self.subTest(deed):
                self.assertEqual(len(read("; ".join([deed] * 40))[0]), 40)
                self.too_great("; ".join([deed] * 41))

    def test_deeds_of_all_hands_count(self):
        six = ["; ".join(["fence"] * size) for size in (7, 7, 7, 7, 7, 5)]
        self.assertEqual([len(hand) for hand in read(" | ".join(six))], [7, 7, 7, 7, 7, 5])
        self.too_great(" | ".join(six) + "; bar")
        self.too_great("put x 1 | " + "; ".join(["bar"] * 40))
        self.assertEqual(len(read("idle | " + "; ".join(["bar"] * 40))), 2)

    def test_a_hand_that_is_none_goes_ahead(self):
        self.refused(" | ".join(["idle"] * 6 + ["put"]), 6)
        self.refused(" | ".join(["idle"] * 9 + ["-"] + ["idle"] * 3), 9)
        self.refused(" | ".join(["idle"] * 7) + " | ", 7)
        self.refused("; ".join(["fence"] * 41) + ";", 0)
        self.refused("; ".join(["fence"] * 41) + " | put x", 1)
        self.refused("; ".join(["put"] * 41), 0)


if __name__ == "__main__":
    unittest.main()
