import unittest

from latewrite.growth import orders
from latewrite.orders import tale_by
from latewrite.programs import points
from latewrite.search import tales
from latewrite.texts import read

from helping import BOUNDS, SLACKS, TEXTS, answered, barred, orders_of, own_lists_of_all, refuses_great
from helping import tale_of, told_in, within_seconds


class Growth(unittest.TestCase):
    def told(self, program, *slack):
        """The tales, written, once it is sure that each is there once, with an order that tells it."""
        answer = answered(self, orders, program, *slack)
        for tale, order in answer:
            self.assertIs(type(order), list)
            self.assertEqual(told_in(program, order), tale)
            self.assertEqual(tale_by(program, order, *slack), tale)
        written = [repr(tale) for tale, order in answer]
        self.assertEqual(len(set(written)), len(written))
        return sorted(written)

    def tells(self, text, wanted, slacks=SLACKS):
        """wanted: pairs of sources by readers and of lines by places."""
        for slack in slacks:
            with self.subTest(text=text, slack=slack):
                self.assertEqual(self.told(read(text), slack), sorted(repr(tale_of(*pair)) for pair in wanted))


class Told(Growth):
    def test_just_those_that_all_orders_tell(self):
        for text in TEXTS + BOUNDS:
            program = read(text)
            wanted = orders_of(program)
            for slack in SLACKS:
                with self.subTest(text=text, slack=slack):
                    self.assertEqual(self.told(program, slack), sorted(wanted[slack]))
                    for tale, order in orders(program, slack):
                        self.assertIn(order, wanted[slack][repr(tale)])

    def test_just_those_that_runs_have(self):
        for text in TEXTS + BOUNDS:
            program = read(text)
            for slack in SLACKS:
                with self.subTest(text=text, slack=slack):
                    wanted = sorted(repr(tale) for tale, moves in tales(program, slack))
                    self.assertEqual(self.told(program, slack), wanted)

    def test_less_slack_adds_no_tale(self):
        for text in TEXTS + BOUNDS:
            with self.subTest(text):
                at_once, late, loose = [set(self.told(read(text), slack)) for slack in SLACKS]
                self.assertTrue(at_once <= late <= loose)

    def test_less_slack_tells_less_somewhere(self):
        self.assertEqual([len(orders(read(TEXTS[1]), slack)) for slack in SLACKS], [3, 4, 4])
        self.assertEqual([len(orders(read(TEXTS[5]), slack)) for slack in SLACKS], [3, 3, 4])

    def test_a_bar_ahead_of_each_put_tells_as_less_slack(self):
        for program in barred():
            with self.subTest(program):
                self.assertEqual(self.told(program, 2), self.told(program, 1))

    def test_a_fence_or_bar_more_adds_no_tale(self):
        for text in ("put x 1; get a y | put y 1; get b x", "put x 1; put y 1 | get a y; get b x"):
            for slack in SLACKS:
                all_told = set(self.told(read(text), slack))
                for word in ("fence", "bar"):
                    for more in (text.replace("; ", "; " + word + "; ", 1), text.replace("; ", "; " + word + "; ")):
                        with self.subTest(more=more, slack=slack):
                            self.assertLessEqual(set(self.told(read(more), slack)), all_told)

    def test_the_slack_left_out(self):
        program = read("put x 1; put y 1 | get a y; get b x")
        self.assertEqual(self.told(program), self.told(program, 2))
        self.assertEqual(len(orders(program, slack=1)), 3)

    def test_at_the_bounds_within_seconds(self):
        for text in BOUNDS:
            program = read(text)
            self.assertEqual([len(program), len(points(program)), sum(map(len, program))], [4, 6, 12])
        within_seconds(self, orders, BOUNDS)

    def test_what_was_told_stays(self):
        own_lists_of_all(self, orders, TEXTS[:9] + BOUNDS[:1])

    def test_what_is_not_small(self):
        refuses_great(self, orders)


class Each(Growth):
    """All tales of the plainest programs, written by hand."""

    def test_without_points(self):
        for slack in SLACKS:
            with self.subTest(slack):
                self.assertEqual(orders([[]], slack), [(([], []), [])])
                self.assertEqual(orders([[], [], [], []], slack), [(([], []), [])])
                self.assertEqual(orders(read("fence; bar | bar; fence | idle"), slack), [(([], []), [])])
                self.assertEqual(orders(read("put x 1 when a 1; fence"), slack), [(([], [("x", [])]), [])])

    def test_a_put_and_a_get(self):
        line = {"x": [(0, 0)]}
        self.tells("put x 1 | get a x", [({(1, 0): None}, line), ({(1, 0): (0, 0)}, line)])
        self.tells("put x 1 | idle | get a x", [({(2, 0): None}, line), ({(2, 0): (0, 0)}, line)])

    def test_two_gets_ahead_of_two_puts(self):
        lines = {"x": [(0, 0)], "y": [(1, 0)]}
        both_late = ({(0, 1): None, (1, 1): None}, lines)
        others = [
            ({(0, 1): (1, 0), (1, 1): None}, lines),
            ({(0, 1): None, (1, 1): (0, 0)}, lines),
            ({(0, 1): (1, 0), (1, 1): (0, 0)}, lines),
        ]
        self.tells("put x 1; get a y | put y 1; get b x", others, (0,))
        self.tells("put x 1; get a y | put y 1; get b x", others + [both_late], (1, 2))
        self.tells("put x 1; bar; get a y | put y 1; bar; get b x", others + [both_late], (1, 2))
        self.tells("put x 1; fence; get a y | put y 1; get b x", others + [both_late], (1, 2))
        self.tells("put x 1; fence; get a y | put y 1; fence; get b x", others)

    def test_two_puts_the_other_way_round(self):
        lines = {"x": [(0, 0)], "y": [(0, 1)]}
        backward = ({(1, 0): (0, 1), (1, 1): None}, lines)
        others = [
            ({(1, 0): None, (1, 1): None}, lines),
            ({(1, 0): None, (1, 1): (0, 0)}, lines),
            ({(1, 0): (0, 1), (1, 1): (0, 0)}, lines),
        ]
        self.tells("put x 1; put y 1 | get a y; get b x", others, (0, 1))
        self.tells("put x 1; put y 1 | get a y; get b x", others + [backward], (2,))
        self.tells("put x 1; bar; put y 1 | get a y; get b x", others)
        self.tells("put x 1; fence; put y 1 | get a y; get b x", others)
        self.tells("put x 1; bar when c 1; put y 1 | get a y; get b x", others + [backward], (2,))

    def test_a_get_of_the_own_put_ahead_of_its_coming(self):
        # Both gets of the own put may come ahead of it, and so ahead of the other hand's put.
        text = "put x 1; get a x; get b y | put y 1; get a y; get b x"
        lines = {"x": [(0, 0)], "y": [(1, 0)]}
        own = {(0, 1): (0, 0), (1, 1): (1, 0)}
        others = [
            (own | {(0, 2): None, (1, 2): (0, 0)}, lines),
            (own | {(0, 2): (1, 0), (1, 2): None}, lines),
            (own | {(0, 2): (1, 0), (1, 2): (0, 0)}, lines),
        ]
        self.tells(text, others, (0,))
        self.tells(text, others + [(own | {(0, 2): None, (1, 2): None}, lines)], (1, 2))

    def test_a_get_of_the_own_put_that_comes_last(self):
        text = "put x 1; get a x | put x 2"
        self.tells(text, [
            ({(0, 1): (0, 0)}, {"x": [(0, 0), (1, 0)]}),
            ({(0, 1): (1, 0)}, {"x": [(0, 0), (1, 0)]}),
            ({(0, 1): (0, 0)}, {"x": [(1, 0), (0, 0)]}),
        ])

    def test_swaps(self):
        self.tells("swap a x 1 | swap b x 2", [
            ({(0, 0): None, (1, 0): (0, 0)}, {"x": [(0, 0), (1, 0)]}),
            ({(0, 0): (1, 0), (1, 0): None}, {"x": [(1, 0), (0, 0)]}),
        ])
        self.tells("put x 1; swap a x 2", [({(0, 1): (0, 0)}, {"x": [(0, 0), (0, 1)]})])
        # A put can't come behind its hand's swap: so the hand whose swap comes later sees the other one's put.
        lines = {"x": [(0, 0)], "y": [(1, 0)], "z": [(0, 1), (1, 1)]}
        others = {"x": [(0, 0)], "y": [(1, 0)], "z": [(1, 1), (0, 1)]}
        self.tells("put x 1; swap c z 1; get a y | put y 1; swap c z 2; get b x", [
            ({(0, 1): None, (1, 1): (0, 1), (0, 2): None, (1, 2): (0, 0)}, lines),
            ({(0, 1): None, (1, 1): (0, 1), (0, 2): (1, 0), (1, 2): (0, 0)}, lines),
            ({(0, 1): (1, 1), (1, 1): None, (0, 2): (1, 0), (1, 2): None}, others),
            ({(0, 1): (1, 1), (1, 1): None, (0, 2): (1, 0), (1, 2): (0, 0)}, others),
        ])
        program = read("swap a x 1; swap a x 2 | swap a x 3; swap a x 4 | swap a x 5 | swap a x 6")
        for slack in SLACKS:
            self.assertEqual(len(orders(program, slack)), 180)

    def test_guards(self):
        self.tells("put x 1 | get a x; put y 1 when a 1; get b y unless a 1", [
            ({(1, 0): None, (1, 2): None}, {"x": [(0, 0)], "y": []}),
            ({(1, 0): (0, 0)}, {"x": [(0, 0)], "y": [(1, 1)]}),
        ])
        # Nothing comes from nothing: each would have to come ahead of the other.
        self.tells("get a x; put y 1 when a 1 | get b y; put x 1 when b 1", [
            ({(0, 0): None, (1, 0): None}, {"x": [], "y": []}),
        ])


if __name__ == "__main__":
    unittest.main()
