import copy
import time
import unittest

from latewrite.errors import TooGreat
from latewrite.judge import judged
from latewrite.orders import tale_by
from latewrite.programs import is_small, points
from latewrite.runs import order_by, walked
from latewrite.search import tales
from latewrite.texts import read

from helping import SLACKS, TEXTS, ends_of

# At the bounds of what is small: four hands, six points, twelve deeds.
BOUNDS = [
    "put x 1; bar; get a x | put x 2; fence; get b x; bar | bar; put x 3; fence | bar; get c x",
    "bar; swap a x 1; fence; swap b x 2 | bar; swap a x 3; swap b x 4; fence | fence; swap a x 5 | swap a x 6; bar",
    "swap a x 1; put x 1; bar | bar; put x 2; bar; get a x | fence; put x 2; bar | get a x; fence",
    "put x 1; put y 1; put z 1; bar; bar; fence | bar; bar; get a z; get b y; get c x; bar | idle | idle",
    "put x 1; put y 1; bar | bar; put y 2; put x 2; bar | fence; put x 3; bar | put y 3; fence",
    "get a x; bar; put y 1 when a 0 | get a y; put x 2 unless a 1; bar | bar; put x 1; bar | fence; put y 3; fence",
    "put v 1; bar; put w 2; put x 3; put y 4; bar; put z 5; get a v; fence; bar; fence; bar | idle | idle | idle",
]


class Search(unittest.TestCase):
    def told(self, program, *slack):
        """What is told, once it is sure that each tale is there once, with a run of it."""
        kept = copy.deepcopy(program)
        answer = tales(program, *slack)
        self.assertEqual(program, kept)
        self.assertIs(type(answer), list)
        for pair in answer:
            self.assertIs(type(pair), tuple)
            tale, moves = pair
            self.assertIs(type(moves), list)
            self.assertEqual(walked(program, moves, *slack), tale)
            self.assertEqual(tale_by(program, order_by(program, moves, *slack), *slack), tale)
        written = [repr(tale) for tale, moves in answer]
        self.assertEqual(len(set(written)), len(written))
        return sorted(written)


class Told(Search):
    def test_just_those_that_all_runs_have(self):
        for text in TEXTS:
            program = read(text)
            for slack in SLACKS:
                with self.subTest(text=text, slack=slack):
                    self.assertEqual(self.told(program, slack), sorted(ends_of(program, slack)))

    def test_at_the_bounds(self):
        for text in BOUNDS:
            program = read(text)
            self.assertEqual([len(program), len(points(program)), sum(map(len, program))], [4, 6, 12])
            for slack in SLACKS:
                with self.subTest(text=text, slack=slack):
                    self.assertEqual(self.told(program, slack), sorted(ends_of(program, slack)))

    def test_at_the_bounds_within_seconds(self):
        for text in BOUNDS:
            for slack in SLACKS:
                with self.subTest(text=text, slack=slack):
                    start = time.process_time()
                    tales(read(text), slack)
                    self.assertLess(time.process_time() - start, 5)

    def test_counted_by_hand(self):
        def many(text):
            return [len(tales(read(text), slack)) for slack in SLACKS]

        self.assertEqual(many("put x 1; get a y | put y 1; get b x"), [3, 4, 4])
        self.assertEqual(many("put x 1; fence; get a y | put y 1; fence; get b x"), [3, 3, 3])
        self.assertEqual(many("put x 1; put y 1 | get a y; get b x"), [3, 3, 4])
        self.assertEqual(many("put x 1; bar; put y 1 | get a y; get b x"), [3, 3, 3])
        self.assertEqual(many("put x 1; put y 2 | put y 1; put x 2"), [3, 3, 4])
        self.assertEqual(many("swap a x 1; swap a x 2 | swap a x 3; swap a x 4 | swap a x 5 | swap a x 6"), [180] * 3)
        self.assertEqual(many("get a x; get b y; get c z; get a x; get b y; get c z"), [1, 1, 1])

    def test_the_whole_answer(self):
        program = read("put x 1 | get a x")
        for slack in SLACKS:
            with self.subTest(slack):
                found = sorted([tale for tale, moves in tales(program, slack)], key=repr)
                line = [("x", [(0, 0)])]
                self.assertEqual(found, [([((1, 0), (0, 0))], line), ([((1, 0), None)], line)])

    def test_without_points(self):
        for slack in SLACKS:
            with self.subTest(slack):
                self.assertEqual(tales([[]], slack), [(([], []), [])])
                self.assertEqual(tales([[], [], [], []], slack), [(([], []), [])])
                self.assertEqual(tales(read("put x 1 when a 1"), slack), [(([], [("x", [])]), [])])
                found = tales(read("fence; bar | bar; fence"), slack)
                self.assertEqual([tale for tale, moves in found], [([], [])])
                self.assertEqual(sorted(found[0][1]), [("do", 0), ("do", 0), ("do", 1), ("do", 1)])

    def test_the_slack_left_out(self):
        program = read("put x 1; put y 1 | get a y; get b x")
        self.assertEqual(self.told(program), self.told(program, 2))
        self.assertEqual(len(tales(program, slack=1)), 3)

    def test_as_the_judge_tells(self):
        for text in BOUNDS:
            program = read(text)
            loose = [tale for tale, moves in tales(program, 2)]
            for slack in SLACKS:
                with self.subTest(text=text, slack=slack):
                    wanted = [repr(tale) for tale in loose if judged(program, tale, slack)[0] == "order"]
                    self.assertEqual(self.told(program, slack), sorted(wanted))

    def test_a_bar_ahead_of_each_put_tells_as_less_slack(self):
        for text in TEXTS:
            program = read(text.replace("put", "bar; put"))
            if is_small(program):
                with self.subTest(text):
                    self.assertEqual(self.told(program, 2), self.told(program, 1))

    def test_a_fence_or_bar_more_adds_no_tale(self):
        for text in TEXTS:
            program = read(text)
            for slack in SLACKS:
                all_told = {repr(tale) for tale, moves in tales(program, slack)}
                for more in self.with_one_more(program):
                    with self.subTest(more=more, slack=slack):
                        self.assertLessEqual({repr(tale) for tale, moves in tales(more, slack)}, all_told)

    def with_one_more(self, program):
        for h, hand in enumerate(program):
            for at in range(len(hand) + 1):
                for word in ("fence", "bar"):
                    yield program[:h] + [hand[:at] + [(word, None)] + hand[at:]] + program[h + 1:]

    def test_what_was_told_stays(self):
        program = read("put x 1; get a y | put y 1; get b x")
        for slack in SLACKS:
            with self.subTest(slack):
                first = tales(program, slack)
                kept = copy.deepcopy(first)
                again = tales(program, slack)
                for (froms, lines), moves in again:
                    for place, line in lines:
                        line.append((7, 7))
                    froms.clear()
                    lines.clear()
                    moves.clear()
                again.clear()
                self.assertEqual(first, kept)
                self.assertEqual(self.told(program, slack), sorted(repr(tale) for tale, moves in kept))

    def test_no_list_stands_twice_in_what_was_told(self):
        for text in ("put x 1; get a y | put y 1; get b x", "fence; get a x | get b y", BOUNDS[0]):
            for slack in SLACKS:
                with self.subTest(text=text, slack=slack):
                    lists = []
                    for (froms, lines), moves in tales(read(text), slack):
                        lists.extend([froms, lines, moves] + [line for place, line in lines])
                    self.assertEqual(len({id(one) for one in lists}), len(lists))


class Refused(Search):
    def refused(self, program):
        kept = copy.deepcopy(program)
        for slack in ((0,), (1,), (2,), ()):
            with self.subTest(program=program, slack=slack):
                with self.assertRaises(TooGreat):
                    tales(program, *slack)
                self.assertEqual(program, kept)

    def test_more_than_four_hands(self):
        self.refused([[]] * 5)
        self.refused(read("put x 1 | get a x | idle | idle | idle"))
        self.refused([[]] * 6)

    def test_more_than_six_points(self):
        self.refused(read("; ".join(["put x 1"] * 7)))
        self.refused(read("get a x; get a x | get a x; get a x | swap a x 1; swap a x 1 | put x 1"))
        # Points that are passed over count, too.
        self.refused(read("; ".join(["put x 1"] * 6) + "; put x 1 when a 1"))

    def test_more_than_twelve_deeds(self):
        self.refused(read("; ".join(["fence"] * 13)))
        self.refused(read("; ".join(["bar"] * 7) + " | " + "; ".join(["get a x"] * 6)))
        self.refused(read("; ".join(["fence when a 1"] * 12) + " | bar"))

    def test_far_beyond(self):
        self.refused(read(" | ".join(["; ".join(["put x 1; get a y"] * 3)] * 6)))


if __name__ == "__main__":
    unittest.main()
