import copy
import itertools
import unittest

from latewrite.errors import NoGap
from latewrite.gaps import fenced, gaps
from latewrite.programs import deed_at, points
from latewrite.texts import read, shown

from helping import BOUNDS, GREAT, TEXTS, own_lists, some_of

WORDS = ("fence", "bar")


class Gaps(unittest.TestCase):
    def has(self, text, wanted):
        program = read(text)
        with self.subTest(text):
            found = gaps(program)
            self.assertIs(type(found), list)
            self.assertEqual(found, wanted)
            self.assertEqual(program, read(text))

    def test_hands_of_no_one_and_many_points(self):
        self.has("idle", [])
        self.has("idle | idle", [])
        self.has("put x 1", [])
        self.has("put x 1; get a x", [(0, 1)])
        self.has("put x 1; get a x; swap b y 2", [(0, 1), (0, 2)])
        self.has("idle | get a x | put x 1; put y 1; put z 1 | swap a x 1; get b x", [(2, 1), (2, 2), (3, 1)])

    def test_fences_and_bars_are_no_points(self):
        self.has("fence; bar; fence", [])
        self.has("fence; put x 1; bar", [])
        self.has("fence; put x 1; bar; fence; get a x; fence", [(0, 1)])
        self.has("put x 1; fence | bar; put x 2; bar; put x 3; bar; put x 4", [(1, 1), (1, 2)])

    def test_guards_do_not_count(self):
        self.has("put x 1 when a 1; put x 2 when a 1; fence when a 1; get b x unless a 0", [(0, 1), (0, 2)])

    def test_forty_deeds(self):
        self.has("; ".join(["put x 1"] * 40), [(0, k) for k in range(1, 40)])
        for text in GREAT:
            self.has(text, [point for point in points(read(text)) if point[1] != 0])

    def test_what_was_told_stays(self):
        for text in TEXTS + GREAT:
            with self.subTest(text):
                own_lists(self, gaps, read(text))


class Stops(unittest.TestCase):
    def put_in(self, text, some, wanted):
        program = read(text)
        kept = list(some)
        with self.subTest(text=text, some=some):
            self.assertEqual(shown(fenced(program, some)), wanted)
            self.assertEqual((program, some), (read(text), kept))

    def refused(self, text, some):
        program = read(text)
        kept = list(some)
        with self.subTest(text=text, some=some):
            with self.assertRaises(NoGap):
                fenced(program, some)
            self.assertEqual((program, some), (read(text), kept))


class PutIn(Stops):
    def test_one(self):
        text = "put x 1; get a y | swap b y 2; put x 3; get c x"
        self.put_in(text, [(0, 1, "fence")], "put x 1; fence; get a y | swap b y 2; put x 3; get c x")
        self.put_in(text, [(0, 1, "bar")], "put x 1; bar; get a y | swap b y 2; put x 3; get c x")
        self.put_in(text, [(1, 1, "fence")], "put x 1; get a y | swap b y 2; fence; put x 3; get c x")
        self.put_in(text, [(1, 2, "bar")], "put x 1; get a y | swap b y 2; put x 3; bar; get c x")

    def test_several_in_any_order(self):
        text = "put x 1; get a y | swap b y 2; put x 3; get c x"
        wanted = "put x 1; bar; get a y | swap b y 2; fence; put x 3; bar; get c x"
        for some in itertools.permutations([(0, 1, "bar"), (1, 1, "fence"), (1, 2, "bar")]):
            self.put_in(text, list(some), wanted)

    def test_none(self):
        for text in TEXTS + BOUNDS + GREAT + ["idle", "put x 1", "idle | fence; bar"]:
            self.put_in(text, [], text)

    def test_right_ahead_of_the_point(self):
        text = "fence; put x 1; bar; fence; get a y; bar; bar"
        self.put_in(text, [(0, 1, "bar")], "fence; put x 1; bar; fence; bar; get a y; bar; bar")
        self.put_in(text, [(0, 1, "fence")], "fence; put x 1; bar; fence; fence; get a y; bar; bar")
        self.put_in("put x 1; fence; put x 2; fence; put x 3", [(0, 2, "bar"), (0, 1, "fence")],
                    "put x 1; fence; fence; put x 2; fence; bar; put x 3")

    def test_guards(self):
        text = "get a x; fence when a 1; put y 1 when a 1; put y 2 unless a 1"
        self.put_in(text, [(0, 2, "bar"), (0, 1, "fence")],
                    "get a x; fence when a 1; fence; put y 1 when a 1; bar; put y 2 unless a 1")

    def test_without_a_guard(self):
        for word in WORDS:
            found = fenced(read("get a x; put y 1 when a 1"), [(0, 1, word)])
            self.assertEqual(found, [[("get", "a", "x", None), (word, None), ("put", "y", 1, ("when", "a", 1))]])

    def test_each_gap(self):
        for text in TEXTS + BOUNDS + GREAT:
            program = read(text)
            for h, k in gaps(program):
                for word in WORDS:
                    with self.subTest(text=text, gap=(h, k), word=word):
                        found = fenced(program, [(h, k, word)])
                        self.assertEqual(found[:h] + found[h + 1:], program[:h] + program[h + 1:])
                        at = next(at for at in range(len(found[h])) if found[h][at] != (program[h] + [None])[at])
                        while found[h][at] == (word, None):
                            at += 1
                        # The last of perhaps several alike ones is the new one.
                        self.assertEqual(found[h][:at - 1] + found[h][at:], program[h])
                        self.assertEqual(found[h][at], deed_at(program, (h, k)))

    def test_points_stay_what_they_were(self):
        for text in TEXTS + BOUNDS:
            program = read(text)
            for some in some_of(gaps(program)):
                for word in WORDS:
                    with self.subTest(text=text, some=some, word=word):
                        found = fenced(program, [(h, k, word) for h, k in some])
                        self.assertEqual(points(found), points(program))
                        self.assertEqual(gaps(found), gaps(program))
                        for point in points(program):
                            self.assertEqual(deed_at(found, point), deed_at(program, point))

    def test_every_gap_of_forty_deeds(self):
        text = "; ".join(["put x 1"] * 40)
        some = [(0, k, "bar") for k in range(39, 0, -1)]
        self.put_in(text, some, "; bar; ".join(["put x 1"] * 40))
        for text in GREAT:
            program = read(text)
            found = fenced(program, [(h, k, "fence") for h, k in gaps(program)])
            self.assertEqual(sum(map(len, found)), 40 + len(gaps(program)))
            self.assertEqual(points(found), points(program))

    def test_again(self):
        program = read("put x 1; get a y")
        once = fenced(program, [(0, 1, "bar")])
        self.assertEqual(shown(fenced(once, [(0, 1, "fence")])), "put x 1; bar; fence; get a y")

    def test_the_hands_are_new_lists(self):
        for text in TEXTS + GREAT + ["idle", "idle | idle"]:
            program = read(text)
            for some in ([], [(h, k, "fence") for h, k in gaps(program)]):
                with self.subTest(text=text, some=some):
                    own_lists(self, fenced, program, some)

    def test_hands_handed_in_that_are_one_list(self):
        hand = [("put", "x", 1, None), ("get", "a", "x", None)]
        program = [hand, hand]
        found = fenced(program, [(1, 1, "bar")])
        self.assertEqual(shown(found), "put x 1; get a x | put x 1; bar; get a x")
        self.assertEqual(hand, [("put", "x", 1, None), ("get", "a", "x", None)])
        plain = fenced(program, [])
        plain[0].clear()
        self.assertEqual(len(plain[1]), 2)


class Refused(Stops):
    TEXT = "put x 1; fence; get a y; bar | get b x | idle | swap c x 1; fence; fence; put y 2; get d y"

    def no_gap(self, h, k):
        for word in WORDS:
            self.refused(self.TEXT, [(h, k, word)])
            self.refused(self.TEXT, [(0, 1, "fence"), (h, k, word), (3, 2, "bar")])
            self.refused(self.TEXT, [(3, 1, "fence"), (3, 2, "bar"), (h, k, word)])

    def test_a_hand_that_is_not_there(self):
        for h in (4, 5, 6, 10 ** 30, -1, -2, -3, -4, -5, -10 ** 30):
            for k in (0, 1, 2):
                self.no_gap(h, k)

    def test_a_hands_first_point(self):
        for h in range(4):
            self.no_gap(h, 0)

    def test_behind_a_hands_last_point(self):
        self.no_gap(0, 2)
        self.no_gap(0, 3)
        self.no_gap(1, 1)
        self.no_gap(2, 1)
        self.no_gap(3, 3)
        self.no_gap(3, 4)
        self.no_gap(3, 10 ** 30)

    def test_below_nought(self):
        for h in range(4):
            for k in (-1, -2, -3, -10 ** 30):
                self.no_gap(h, k)

    def test_two_of_one_gap(self):
        for one in WORDS:
            for other in WORDS:
                self.refused(self.TEXT, [(0, 1, one), (0, 1, other)])
                self.refused(self.TEXT, [(3, 2, one), (0, 1, "bar"), (3, 2, other)])
                self.refused(self.TEXT, [(3, 1, one), (3, 1, other), (3, 1, one)])
                self.refused(self.TEXT, [(0, 0, one), (0, 0, other)])

    def test_a_program_without_gaps(self):
        for text in ("idle", "fence; bar; fence", "put x 1", "get a x | get b x"):
            for h in range(2):
                for k in range(3):
                    self.refused(text, [(h, k, "fence")])

    def test_of_forty_deeds(self):
        text = "; ".join(["put x 1"] * 40)
        every = [(0, k, "fence") for k in range(1, 40)]
        for k in (0, 40, 41, -1):
            self.refused(text, every + [(0, k, "fence")])
        for stop in every:
            self.refused(text, every + [stop])
        self.refused(text, every * 5)

    def test_a_program_refused_is_not_changed(self):
        program = read(self.TEXT)
        kept = copy.deepcopy(program)
        with self.assertRaises(NoGap):
            fenced(program, [(0, 1, "fence"), (9, 1, "bar")])
        self.assertEqual(program, kept)
        self.assertEqual(len(fenced(program, [(0, 1, "fence")])[0]), 5)


if __name__ == "__main__":
    unittest.main()
