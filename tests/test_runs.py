import copy
import unittest

from latewrite.errors import NoMove, NotEnded
from latewrite.orders import tale_by
from latewrite.runs import order_by, walked
from latewrite.texts import read

from helping import GREAT, SLACKS, TEXTS, came, some_run, tale_of


def do(*hands):
    return [("do", h) for h in hands]


def settle(h, place):
    return [("settle", h, place)]


class Runs(unittest.TestCase):
    def walk(self, text, moves, order, froms, lines, *slack):
        program = read(text)
        kept = list(moves)
        with self.subTest(text=text, moves=moves, slack=slack):
            self.assertEqual(walked(program, moves, *slack), tale_of(froms, lines))
            self.assertEqual(order_by(program, moves, *slack), order)
            self.assertEqual((program, moves), (read(text), kept))

    def refused(self, error, text, moves, slacks=SLACKS):
        program = read(text)
        kept = list(moves)
        for slack in slacks:
            for ask in (walked, order_by):
                with self.subTest(text=text, moves=moves, slack=slack, ask=ask):
                    with self.assertRaises(error):
                        ask(program, moves, slack)
                    self.assertEqual((program, moves), (read(text), kept))


class Walked(Runs):
    TEXT = "put x 1; get a y | put y 1; get b x"
    LINES = {"x": [(0, 0)], "y": [(1, 0)]}

    def test_at_once(self):
        froms = {(0, 1): None, (1, 1): (0, 0)}
        self.walk(self.TEXT, do(0, 0, 1, 1), [(0, 0), (0, 1), (1, 0), (1, 1)], froms, self.LINES, 0)
        froms = {(0, 1): (1, 0), (1, 1): (0, 0)}
        self.walk(self.TEXT, do(1, 0, 1, 0), [(1, 0), (0, 0), (1, 1), (0, 1)], froms, self.LINES, 0)

    def test_late(self):
        moves = do(0, 0, 1, 1) + settle(1, "y") + settle(0, "x")
        order = [(0, 1), (1, 1), (1, 0), (0, 0)]
        for slack in ((1,), (2,), ()):
            self.walk(self.TEXT, moves, order, {(0, 1): None, (1, 1): None}, self.LINES, *slack)

    def test_late_but_settled_ahead_of_the_gets(self):
        moves = do(0, 1) + settle(0, "x") + do(1) + settle(1, "y") + do(0)
        order = [(0, 0), (1, 1), (1, 0), (0, 1)]
        for slack in (1, 2):
            self.walk(self.TEXT, moves, order, {(0, 1): (1, 0), (1, 1): (0, 0)}, self.LINES, slack)

    def test_a_get_of_the_own_row(self):
        text = "put x 1; put x 2; get a x | put x 3"
        moves = do(0, 0) + settle(0, "x") + do(1) + settle(1, "x") + do(0) + settle(0, "x")
        lines = {"x": [(0, 0), (1, 0), (0, 1)]}
        for slack in (1, 2):
            self.walk(text, moves, [(0, 0), (1, 0), (0, 2), (0, 1)], {(0, 2): (0, 1)}, lines, slack)

    def test_places_out_of_order(self):
        text = "put x 1; put y 1 | get a y; get b x"
        lines = {"x": [(0, 0)], "y": [(0, 1)]}
        moves = do(0, 0) + settle(0, "y") + do(1, 1) + settle(0, "x")
        self.walk(text, moves, [(0, 1), (1, 0), (1, 1), (0, 0)], {(1, 0): (0, 1), (1, 1): None}, lines, 2)
        self.walk(text, moves, [(0, 1), (1, 0), (1, 1), (0, 0)], {(1, 0): (0, 1), (1, 1): None}, lines)
        self.refused(NoMove, text, moves, (0, 1))
        moves = do(0, 0) + settle(0, "x") + do(1, 1) + settle(0, "y")
        self.walk(text, moves, [(0, 0), (1, 0), (1, 1), (0, 1)], {(1, 0): None, (1, 1): (0, 0)}, lines, 1)

    def test_swaps_fences_and_bars(self):
        text = "put x 1; bar; swap a x 2; fence; put y 3; bar; fence; get b y"
        lines = {"x": [(0, 0), (0, 1)], "y": [(0, 2)]}
        froms = {(0, 1): (0, 0), (0, 3): (0, 2)}
        order = [(0, 0), (0, 1), (0, 2), (0, 3)]
        self.walk(text, do(0) * 8, order, froms, lines, 0)
        late = do(0, 0) + settle(0, "x") + do(0, 0, 0, 0) + settle(0, "y") + do(0, 0)
        for slack in (1, 2):
            self.walk(text, late, order, froms, lines, slack)

    def test_deeds_passed_over(self):
        text = "get a x; put y 1 when a 1; put y 2 unless a 1 | put x 1; fence when c 1"
        self.walk(text, do(1, 0, 0), [(1, 0), (0, 0), (0, 1)], {(0, 0): (1, 0)}, {"x": [(1, 0)], "y": [(0, 1)]}, 0)
        self.walk(text, do(0, 1, 0), [(0, 0), (1, 0), (0, 2)], {(0, 0): None}, {"x": [(1, 0)], "y": [(0, 2)]}, 0)
        moves = do(1, 0, 0) + settle(0, "y") + settle(1, "x")
        order = [(0, 0), (0, 2), (1, 0)]
        self.walk(text, moves, order, {(0, 0): None}, {"x": [(1, 0)], "y": [(0, 2)]}, 1)

    def test_many_runs(self):
        for text in TEXTS + GREAT:
            program = read(text)
            for slack in SLACKS:
                for turn in range(4):
                    with self.subTest(text=text, slack=slack, turn=turn):
                        moves, tale = some_run(program, slack, turn)
                        kept = copy.deepcopy((program, moves))
                        self.assertEqual(walked(program, moves, slack), tale)
                        self.assertEqual(order_by(program, moves, slack), came(program, moves, slack))
                        self.assertEqual(tale_by(program, order_by(program, moves, slack), slack), tale)
                        self.assertEqual((program, moves), kept)

    def test_what_was_told_is_the_askers_own(self):
        program = read(self.TEXT)
        moves = do(0, 0, 1, 1)
        first = walked(program, moves, 0)
        order = order_by(program, moves, 0)
        kept = copy.deepcopy(first)
        first[1][0][1].clear()
        first[0].clear()
        order.clear()
        self.assertEqual(walked(program, moves, 0), kept)
        self.assertEqual(order_by(program, moves, 0), [(0, 0), (0, 1), (1, 0), (1, 1)])


class NoMoves(Runs):
    def test_without_deeds(self):
        for slack in SLACKS:
            for text in ("idle", "idle | idle | idle"):
                self.walk(text, [], [], {}, {}, slack)

    def test_all_deeds_passed_over(self):
        for slack in SLACKS:
            self.walk("put x 1 when a 1; fence unless a 0", [], [], {}, {"x": []}, slack)

    def test_with_deeds(self):
        for text in ("put x 1", "get a x", "swap a x 1", "fence", "bar", "idle | put x 1"):
            self.refused(NotEnded, text, [])

    def test_without_points(self):
        for slack in SLACKS:
            self.walk("fence; bar | fence", do(0, 1, 0), [], {}, {}, slack)
        self.refused(NotEnded, "fence; bar | fence", do(0, 1))


class Unended(Runs):
    def test_deeds_left(self):
        self.refused(NotEnded, "put x 1; get a y | put y 1; get b x", do(0, 0, 1))
        self.refused(NotEnded, "get a x; fence", do(0))
        self.refused(NotEnded, "get a x; bar", do(0))
        self.refused(NotEnded, "get a x; get b x when a 0", do(0))

    def test_rows_that_are_not_empty(self):
        self.refused(NotEnded, "put x 1", do(0), (1, 2))
        self.refused(NotEnded, "put x 1; bar", do(0, 0), (1, 2))
        self.refused(NotEnded, "put x 1; put x 2", do(0, 0) + settle(0, "x"), (1, 2))
        self.walk("put x 1", do(0), [(0, 0)], {}, {"x": [(0, 0)]}, 0)

    def test_each_part_of_a_run(self):
        for text in TEXTS:
            program = read(text)
            for slack in SLACKS:
                moves = some_run(program, slack, 3)[0]
                for many in range(len(moves)):
                    self.refused(NotEnded, text, moves[:many], (slack,))


class Refused(Runs):
    def test_moves_that_no_machine_has(self):
        for move in (("do", 2), ("do", -1), ("do", 6), ("settle", 0, "z"), ("settle", 2, "x"), ("settle", -1, "x")):
            self.refused(NoMove, "put x 1; get a y | put y 1; get b x", [move])
            self.refused(NoMove, "put x 1; get a y | put y 1; get b x", do(0, 1) + [move])
            self.refused(NoMove, "idle", [move])

    def test_a_settling_of_what_does_not_wait(self):
        self.refused(NoMove, "put x 1", settle(0, "x"))
        self.refused(NoMove, "put x 1", do(0) + settle(0, "x") + settle(0, "x"))
        self.refused(NoMove, "put x 1 | put y 1", do(0, 1) + settle(0, "y"))
        self.refused(NoMove, "put x 1", do(0) + settle(0, "x"), (0,))
        self.refused(NoMove, "put x 1; put y 1", do(0, 0) + settle(0, "y") + settle(0, "x"), (0, 1))
        self.refused(NoMove, "put x 1; bar; put y 1", do(0, 0, 0) + settle(0, "y") + settle(0, "x"))

    def test_a_fence_or_swap_while_the_row_is_not_empty(self):
        self.refused(NoMove, "put x 1; fence", do(0, 0) + settle(0, "x"))
        self.refused(NoMove, "put x 1; fence", do(0, 0), (1, 2))
        self.refused(NoMove, "put x 1; swap a y 1", do(0, 0), (1, 2))

    def test_behind_the_end(self):
        for slack in SLACKS:
            for text in TEXTS:
                moves = some_run(read(text), slack, 1)[0]
                self.refused(NoMove, text, moves + do(0), (slack,))
                self.refused(NoMove, text, moves + settle(0, "x"), (slack,))

    def test_it_goes_ahead_of_what_comes_later(self):
        # With a move that can't be done among them, it does not matter whether the rest would lead to the end.
        self.refused(NoMove, "get a x | get b x", do(0, 0))
        self.refused(NoMove, "get a x | get b x", do(0, 0, 1))
        self.refused(NoMove, "get a x | get b x", do(0, 1, 0))
        self.refused(NoMove, "get a x | get b x", do(2, 0, 1))


if __name__ == "__main__":
    unittest.main()
