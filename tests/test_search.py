import unittest

from latewrite.judge import judged
from latewrite.orders import tale_by
from latewrite.programs import points
from latewrite.runs import order_by, walked
from latewrite.search import tales
from latewrite.texts import read

from helping import BOUNDS, SLACKS, TEXTS, answered, barred, ends_of, own_lists_of_all, refuses_great
from helping import within_seconds


class Search(unittest.TestCase):
    def told(self, program, *slack):
        """What is told, once it is sure that each tale is there once, with a run of it."""
        answer = answered(self, tales, program, *slack)
        for tale, moves in answer:
            self.assertIs(type(moves), list)
            self.assertEqual(walked(program, moves, *slack), tale)
            self.assertEqual(tale_by(program, order_by(program, moves, *slack), *slack), tale)
        written = [repr(tale) for tale, moves in answer]
        self.assertEqual(len(set(written)), len(written))
        return sorted(written)


class Told(Search):
    def test_just_those_that_all_runs_have(self):
        for text in TEXTS:
            program = read(text)
            for slack in SLACKS:
                with self.subTest(text=text, slack=slack):
                    self.assertEqual(self.told(program, slack), sorted(ends_of(program, slack)))

    def test_at_the_bounds(self):
        for text in BOUNDS:
            program = read(text)
            self.assertEqual([len(program), len(points(program)), sum(map(len, program))], [4, 6, 12])
            for slack in SLACKS:
                with self.subTest(text=text, slack=slack):
                    self.assertEqual(self.told(program, slack), sorted(ends_of(program, slack)))

    def test_at_the_bounds_within_seconds(self):
        within_seconds(self, tales, BOUNDS)

    def test_counted_by_hand(self):
        def many(text):
            return [len(tales(read(text), slack)) for slack in SLACKS]

        self.assertEqual(many("put x 1; get a y | put y 1; get b x"), [3, 4, 4])
        self.assertEqual(many("put x 1; fence; get a y | put y 1; fence; get b x"), [3, 3, 3])
        self.assertEqual(many("put x 1; put y 1 | get a y; get b x"), [3, 3, 4])
        self.assertEqual(many("put x 1; bar; put y 1 | get a y; get b x"), [3, 3, 3])
        self.assertEqual(many("put x 1; put y 2 | put y 1; put x 2"), [3, 3, 4])
        self.assertEqual(many("swap a x 1; swap a x 2 | swap a x 3; swap a x 4 | swap a x 5 | swap a x 6"), [180] * 3)
        self.assertEqual(many("get a x; get b y; get c z; get a x; get b y; get c z"), [1, 1, 1])

    def test_the_whole_answer(self):
        program = read("put x 1 | get a x")
        for slack in SLACKS:
            with self.subTest(slack):
                found = sorted([tale for tale, moves in tales(program, slack)], key=repr)
                line = [("x", [(0, 0)])]
                self.assertEqual(found, [([((1, 0), (0, 0))], line), ([((1, 0), None)], line)])

    def test_without_points(self):
        for slack in SLACKS:
            with self.subTest(slack):
                self.assertEqual(tales([[]], slack), [(([], []), [])])
                self.assertEqual(tales([[], [], [], []], slack), [(([], []), [])])
                self.assertEqual(tales(read("put x 1 when a 1"), slack), [(([], [("x", [])]), [])])
                found = tales(read("fence; bar | bar; fence"), slack)
                self.assertEqual([tale for tale, moves in found], [([], [])])
                self.assertEqual(sorted(found[0][1]), [("do", 0), ("do", 0), ("do", 1), ("do", 1)])

    def test_the_slack_left_out(self):
        program = read("put x 1; put y 1 | get a y; get b x")
        self.assertEqual(self.told(program), self.told(program, 2))
        self.assertEqual(len(tales(program, slack=1)), 3)

    def test_as_the_judge_tells(self):
        for text in BOUNDS:
            program = read(text)
            loose = [tale for tale, moves in tales(program, 2)]
            for slack in SLACKS:
                with self.subTest(text=text, slack=slack):
                    wanted = [repr(tale) for tale in loose if judged(program, tale, slack)[0] == "order"]
                    self.assertEqual(self.told(program, slack), sorted(wanted))

    def test_a_bar_ahead_of_each_put_tells_as_less_slack(self):
        for program in barred():
            with self.subTest(program):
                self.assertEqual(self.told(program, 2), self.told(program, 1))

    def test_a_fence_or_bar_more_adds_no_tale(self):
        for text in TEXTS:
            program = read(text)
            for slack in SLACKS:
                all_told = {repr(tale) for tale, moves in tales(program, slack)}
                for more in self.with_one_more(program):
                    with self.subTest(more=more, slack=slack):
                        self.assertLessEqual({repr(tale) for tale, moves in tales(more, slack)}, all_told)

    def with_one_more(self, program):
        for h, hand in enumerate(program):
            for at in range(len(hand) + 1):
                for word in ("fence", "bar"):
                    yield program[:h] + [hand[:at] + [(word, None)] + hand[at:]] + program[h + 1:]

    def test_what_was_told_stays(self):
        own_lists_of_all(self, tales, TEXTS + BOUNDS)

    def test_what_is_not_small(self):
        refuses_great(self, tales)


if __name__ == "__main__":
    unittest.main()
