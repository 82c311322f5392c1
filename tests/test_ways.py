import unittest

from latewrite.machines import machine
from latewrite.orders import tale_by
from latewrite.runs import walked
from latewrite.search import tales
from latewrite.tales import outcome_of
from latewrite.texts import read
from latewrite.ways import outcomes

from helping import BOUNDS, SLACKS, TEXTS, answered, came, ends_of, own_lists_of_all, refuses_great, within_seconds

MANY = 10 ** 60 - 1


class Ways(unittest.TestCase):
    def told(self, program, *slack):
        """The outcomes as they stand there, once it is sure that each is beside a run to it and the run's order."""
        answer = answered(self, outcomes, program, *slack)
        for outcome, moves, order in answer:
            self.assertEqual([type(outcome), type(moves), type(order)], [tuple, list, list])
            one = machine(program, *slack)
            for move in moves:
                one.do(move)
            self.assertTrue(one.ended())
            self.assertEqual(one.outcome(), outcome)
            self.assertEqual(order, came(program, moves, *slack))
            self.assertEqual(tale_by(program, order, *slack), walked(program, moves, *slack))
        return [outcome for outcome, moves, order in answer]

    def tells(self, text, wanted, slacks=SLACKS):
        for slack in slacks:
            with self.subTest(text=text, slack=slack):
                self.assertEqual(self.told(read(text), slack), wanted)


class Told(Ways):
    def test_just_those_that_all_runs_end_with(self):
        for text in TEXTS + BOUNDS:
            program = read(text)
            for slack in SLACKS:
                with self.subTest(text=text, slack=slack):
                    wanted = sorted(set(ends_of(program, slack).values()))
                    self.assertEqual(self.told(program, slack), wanted)

    def test_just_those_of_the_tales(self):
        for text in TEXTS + BOUNDS:
            program = read(text)
            for slack in SLACKS:
                with self.subTest(text=text, slack=slack):
                    wanted = sorted({outcome_of(program, tale) for tale, moves in tales(program, slack)})
                    self.assertEqual(self.told(program, slack), wanted)

    def test_less_slack_adds_no_outcome(self):
        for text in TEXTS:
            with self.subTest(text):
                at_once, late, loose = [set(self.told(read(text), slack)) for slack in SLACKS]
                self.assertTrue(at_once <= late <= loose)

    def test_the_slack_left_out(self):
        program = read("put x 1; put y 1 | get a y; get b x")
        self.assertEqual(self.told(program), self.told(program, 2))
        self.assertEqual([len(outcomes(program, slack=slack)) for slack in SLACKS], [3, 3, 4])

    def test_at_the_bounds_within_seconds(self):
        within_seconds(self, outcomes, BOUNDS)

    def test_what_was_told_stays(self):
        own_lists_of_all(self, outcomes, TEXTS + BOUNDS[:2])

    def test_what_is_not_small(self):
        refuses_great(self, outcomes)


class Each(Ways):
    """All outcomes of the plainest programs, written by hand."""

    def test_the_whole_answer(self):
        program = read("put x 1; bar")
        outcome = (((),), (("x", 1),))
        self.assertEqual(outcomes(program, 0), [(outcome, [("do", 0), ("do", 0)], [(0, 0)])])
        for slack in (1, 2):
            found = outcomes(program, slack)
            self.assertEqual([(found[0][0], found[0][2])], [(outcome, [(0, 0)])])
            self.assertEqual(sorted(found[0][1]), [("do", 0), ("do", 0), ("settle", 0, "x")])

    def test_without_points(self):
        for slack in SLACKS:
            with self.subTest(slack):
                self.assertEqual(outcomes([[]], slack), [((((),), ()), [], [])])
                self.assertEqual(outcomes([[], [], [], []], slack), [((((), (), (), ()), ()), [], [])])
                passed = read("put x 1 when a 1; fence unless b 0")
                self.assertEqual(outcomes(passed, slack), [((((("a", 0), ("b", 0)),), (("x", 0),)), [], [])])
                self.assertEqual(outcomes(read("fence; bar"), slack), [((((),), ()), [("do", 0), ("do", 0)], [])])

    def test_two_gets_ahead_of_two_puts(self):
        ends = (("x", 1), ("y", 1))
        late = (((("a", 0),), (("b", 0),)), ends)
        others = [(((("a", a),), (("b", b),)), ends) for a, b in ((0, 1), (1, 0), (1, 1))]
        self.tells("put x 1; get a y | put y 1; get b x", others, (0,))
        self.tells("put x 1; get a y | put y 1; get b x", [late] + others, (1, 2))
        self.tells("put x 1; fence; get a y | put y 1; fence; get b x", others)

    def test_two_puts_the_other_way_round(self):
        ends = (("x", 1), ("y", 1))
        at_once = [(((), (("a", a), ("b", b))), ends) for a, b in ((0, 0), (0, 1), (1, 1))]
        loose = [(((), (("a", a), ("b", b))), ends) for a, b in ((0, 0), (0, 1), (1, 0), (1, 1))]
        self.tells("put x 1; put y 1 | get a y; get b x", at_once, (0, 1))
        self.tells("put x 1; put y 1 | get a y; get b x", loose, (2,))
        self.tells("put x 1; bar; put y 1 | get a y; get b x", at_once)

    def test_lines_alone(self):
        both = [(((), ()), (("x", x), ("y", y))) for x, y in ((1, 1), (1, 2), (2, 1), (2, 2))]
        text = "put x 1; put y 2 | put y 1; put x 2"
        self.tells(text, [both[1], both[2], both[3]], (0, 1))
        self.tells(text, both, (2,))

    def test_alike_outcomes_of_several_tales_are_told_once(self):
        self.tells("put x 1 | put x 1", [(((), ()), (("x", 1),))])
        self.tells("put x 1 | put x 1 | put x 1 | put x 1", [(((), (), (), ()), (("x", 1),))])
        self.tells("put x 0 | get a x", [(((), (("a", 0),)), (("x", 0),))])
        self.tells("get a x; get a y | put x 1", [(((("a", 0),), ()), (("x", 1), ("y", 0)))])
        self.tells("swap a x 3 | swap b x 3", [
            (((("a", 0),), (("b", 3),)), (("x", 3),)), (((("a", 3),), (("b", 0),)), (("x", 3),)),
        ])
        for slack in SLACKS:
            self.assertEqual(len(tales(read("put x 1 | put x 1 | put x 1 | put x 1"), slack)), 24)

    def test_numbers_of_sixty_figures_and_below_nought(self):
        text = f"put x -{MANY} | put x {MANY} | put x -1 | get a x"
        pairs = [(a, x) for a in (-MANY, -1, 0, MANY) for x in (-MANY, -1, MANY)]
        self.tells(text, [(((), (), (), (("a", a),)), (("x", x),)) for a, x in pairs])
        self.tells(f"put x {MANY} | put x {MANY - 1} | put x 9", [
            (((), (), ()), (("x", x),)) for x in (9, MANY - 1, MANY)
        ])
        self.tells("put x 10 | put x 9 | put x -10 | put x -9", [
            (((), (), (), ()), (("x", x),)) for x in (-10, -9, 9, 10)
        ])

    def test_a_hands_cups_go_ahead_of_the_next_ones(self):
        self.tells("swap b x 7 | get a x", [
            (((("b", 0),), (("a", a),)), (("x", 7),)) for a in (0, 7)
        ])
        self.tells("get a x | swap b x -7", [
            (((("a", a),), (("b", 0),)), (("x", -7),)) for a in (-7, 0)
        ])

    def test_guards(self):
        self.tells("put x 1 | get a x; put y 5 when a 1; get b y unless a 1", [
            (((), (("a", 0), ("b", 0))), (("x", 1), ("y", 0))),
            (((), (("a", 1), ("b", 0))), (("x", 1), ("y", 5))),
        ])


if __name__ == "__main__":
    unittest.main()
