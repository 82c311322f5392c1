import copy
import itertools
import unittest

from latewrite.errors import NoOrder
from latewrite.judge import judged
from latewrite.machines import machine
from latewrite.orders import run_by, tale_by
from latewrite.programs import points
from latewrite.rules import edges
from latewrite.runs import order_by
from latewrite.tales import points_of
from latewrite.texts import read

from helping import GREAT, SLACKS, TEXTS, ends_of, keeps, some_of, some_run, tale_of


class Orders(unittest.TestCase):
    def told(self, program, order, *slack):
        """The tale, once it is sure that it fits the list, and that a run goes by the list to that tale."""
        kept = copy.deepcopy((program, order))
        tale = tale_by(program, order, *slack)
        self.assertEqual(points_of(program, tale), sorted(order))
        self.assertTrue(keeps(order, edges(program, tale, *slack)))
        moves = run_by(program, order, *slack)
        self.assertEqual((program, order), kept)
        self.goes_by(program, order, moves, tale, *slack)
        return tale

    def goes_by(self, program, order, moves, tale, *slack):
        self.assertIs(type(moves), list)
        one = machine(program, *slack)
        came = []
        for move in moves:
            one.do(move)
            seen = [reader for reader, source in one.tale()[0]] + [point for pair in one.tale()[1] for point in pair[1]]
            came.extend(sorted(set(seen) - set(came)))
        self.assertTrue(one.ended())
        self.assertEqual(one.tale(), tale)
        self.assertEqual(came, order)
        self.assertEqual(order_by(program, moves, *slack), order)

    def tells(self, text, order, froms, lines, slacks=SLACKS):
        """The same tale by each of these slacks, and none by the others."""
        with self.subTest(text=text, order=order):
            for slack in slacks:
                self.assertEqual(self.told(read(text), order, slack), tale_of(froms, lines))
            for slack in set(SLACKS) - set(slacks):
                self.refused(text, order, (slack,))

    def refused(self, text, order, slacks=SLACKS):
        program = read(text)
        for slack in slacks:
            with self.subTest(text=text, order=order, slack=slack):
                kept = list(order)
                with self.assertRaises(NoOrder):
                    tale_by(program, order, slack)
                with self.assertRaises(NoOrder):
                    run_by(program, order, slack)
                self.assertEqual(order, kept)
                self.assertEqual(program, read(text))


class Told(Orders):
    def test_a_get_of_the_last_one_ahead_of_it(self):
        text = "put x 1 | put x 2 | get a x"
        line = {"x": [(1, 0), (0, 0)]}
        self.tells(text, [(1, 0), (0, 0), (2, 0)], {(2, 0): (0, 0)}, line)
        self.tells(text, [(1, 0), (2, 0), (0, 0)], {(2, 0): (1, 0)}, line)
        self.tells(text, [(2, 0), (1, 0), (0, 0)], {(2, 0): None}, line)
        self.tells(text, [(0, 0), (1, 0), (2, 0)], {(2, 0): (1, 0)}, {"x": [(0, 0), (1, 0)]})

    def test_a_get_ahead_of_its_own_hands_put(self):
        text = "put x 1; get a x"
        self.tells(text, [(0, 0), (0, 1)], {(0, 1): (0, 0)}, {"x": [(0, 0)]})
        self.tells(text, [(0, 1), (0, 0)], {(0, 1): (0, 0)}, {"x": [(0, 0)]}, (1, 2))
        self.refused("put x 1; fence; get a x", [(0, 1), (0, 0)])
        self.tells("put x 1; bar; get a x", [(0, 1), (0, 0)], {(0, 1): (0, 0)}, {"x": [(0, 0)]}, (1, 2))

    def test_a_get_ahead_of_some_of_its_own_hands_puts(self):
        text = "put x 1; put x 2; get a x | put x 3"
        own = {(0, 2): (0, 1)}
        self.tells(text, [(0, 0), (0, 2), (0, 1), (1, 0)], own, {"x": [(0, 0), (0, 1), (1, 0)]}, (1, 2))
        self.tells(text, [(0, 2), (0, 0), (0, 1), (1, 0)], own, {"x": [(0, 0), (0, 1), (1, 0)]}, (1, 2))
        # Another hand's put, though nearer ahead of it, does not go first.
        self.tells(text, [(1, 0), (0, 2), (0, 0), (0, 1)], own, {"x": [(1, 0), (0, 0), (0, 1)]}, (1, 2))
        self.tells(text, [(0, 0), (1, 0), (0, 2), (0, 1)], own, {"x": [(0, 0), (1, 0), (0, 1)]}, (1, 2))
        # Behind both, it does.
        self.tells(text, [(0, 0), (0, 1), (1, 0), (0, 2)], {(0, 2): (1, 0)}, {"x": [(0, 0), (0, 1), (1, 0)]})

    def test_a_get_does_not_see_what_its_hand_puts_behind_it(self):
        self.tells("get a x; put x 1", [(0, 0), (0, 1)], {(0, 0): None}, {"x": [(0, 1)]})
        text = "put x 1; get a x; put x 2"
        self.tells(text, [(0, 0), (0, 1), (0, 2)], {(0, 1): (0, 0)}, {"x": [(0, 0), (0, 2)]})
        self.tells(text, [(0, 1), (0, 0), (0, 2)], {(0, 1): (0, 0)}, {"x": [(0, 0), (0, 2)]}, (1, 2))

    def test_a_get_does_not_see_another_hands_put_behind_it(self):
        self.tells("idle | put x 1 | put y 1; get a x", [(2, 0), (2, 1), (1, 0)], {(2, 1): None}, {
            "x": [(1, 0)], "y": [(2, 0)],
        })
        self.tells("put x 1 | put y 1; get a x", [(1, 1), (1, 0), (0, 0)], {(1, 1): None}, {
            "x": [(0, 0)], "y": [(1, 0)],
        }, (1, 2))

    def test_swaps(self):
        text = "swap a x 1 | swap b x 2 | put x 3"
        self.tells(text, [(0, 0), (1, 0), (2, 0)], {(0, 0): None, (1, 0): (0, 0)}, {"x": [(0, 0), (1, 0), (2, 0)]})
        self.tells(text, [(1, 0), (2, 0), (0, 0)], {(0, 0): (2, 0), (1, 0): None}, {"x": [(1, 0), (2, 0), (0, 0)]})
        self.tells(text, [(2, 0), (0, 0), (1, 0)], {(0, 0): (2, 0), (1, 0): (0, 0)}, {"x": [(2, 0), (0, 0), (1, 0)]})

    def test_a_swap_and_its_own_hands_puts(self):
        text = "put x 1; swap a x 2; get b x"
        froms = {(0, 1): (0, 0), (0, 2): (0, 1)}
        self.tells(text, [(0, 0), (0, 1), (0, 2)], froms, {"x": [(0, 0), (0, 1)]})
        self.refused(text, [(0, 1), (0, 0), (0, 2)])
        self.refused(text, [(0, 0), (0, 2), (0, 1)])
        self.refused(text, [(0, 2), (0, 0), (0, 1)])

    def test_places_that_nothing_writes(self):
        self.tells("get a y; get b z | put x 1", [(0, 0), (1, 0), (0, 1)], {(0, 0): None, (0, 1): None}, {
            "x": [(1, 0)], "y": [], "z": [],
        })
        self.tells("put x 1; put y 2 when a 1", [(0, 0)], {}, {"x": [(0, 0)], "y": []})

    def test_other_places_do_not_count(self):
        text = "put x 1; put y 2; get a x; get b y; get c z"
        order = [(0, 0), (0, 1), (0, 2), (0, 3), (0, 4)]
        froms = {(0, 2): (0, 0), (0, 3): (0, 1), (0, 4): None}
        self.tells(text, order, froms, {"x": [(0, 0)], "y": [(0, 1)], "z": []})

    def test_deeds_passed_over_are_not_in_it(self):
        text = "get a x; put y 1 when a 1; put y 2 unless a 1 | put x 1"
        lines = {"x": [(1, 0)], "y": [(0, 1)]}
        self.tells(text, [(1, 0), (0, 0), (0, 1)], {(0, 0): (1, 0)}, lines)
        self.tells(text, [(0, 0), (1, 0), (0, 2)], {(0, 0): None}, {"x": [(1, 0)], "y": [(0, 2)]})
        self.tells(text, [(0, 0), (0, 2), (1, 0)], {(0, 0): None}, {"x": [(1, 0)], "y": [(0, 2)]})

    def test_without_points(self):
        for text in ("idle", "idle | idle", "fence; bar | fence", "put x 1 when a 1; fence; bar"):
            lines = {"x": []} if "x" in text else {}
            self.tells(text, [], {}, lines)

    def test_the_slack_left_out(self):
        program = read("put x 1; put y 1")
        self.assertEqual(self.told(program, [(0, 1), (0, 0)]), ([], [("x", [(0, 0)]), ("y", [(0, 1)])]))
        for slack in (0, 1):
            with self.assertRaises(NoOrder):
                tale_by(program, [(0, 1), (0, 0)], slack=slack)
            with self.assertRaises(NoOrder):
                run_by(program, [(0, 1), (0, 0)], slack=slack)

    def test_what_was_told_is_the_askers_own(self):
        program = read("put x 1; get a x | put x 2")
        order = [(0, 0), (1, 0), (0, 1)]
        froms, lines = tale_by(program, order)
        moves = run_by(program, order)
        self.assertEqual((froms, lines), ([((0, 1), (1, 0))], [("x", [(0, 0), (1, 0)])]))
        kept = list(moves)
        lines[0][1].clear()
        lines.clear()
        froms.clear()
        moves.clear()
        self.assertEqual(order, [(0, 0), (1, 0), (0, 1)])
        self.assertEqual(tale_by(program, order), ([((0, 1), (1, 0))], [("x", [(0, 0), (1, 0)])]))
        self.assertEqual(run_by(program, order), kept)


class Refused(Orders):
    TEXT = "put x 1; get a y | put y 1; get b x"
    GOOD = [(0, 0), (0, 1), (1, 0), (1, 1)]

    def test_a_pair_that_is_no_point(self):
        self.tells(self.TEXT, self.GOOD, {(0, 1): None, (1, 1): (0, 0)}, {"x": [(0, 0)], "y": [(1, 0)]})
        for wrong in ((0, 2), (2, 0), (1, 2), (-1, 0), (0, -1), (-1, -1), (-2, -2), (10 ** 30, 0), (0, 10 ** 30)):
            for at in range(5):
                self.refused(self.TEXT, self.GOOD[:at] + [wrong] + self.GOOD[at:])
            # In the place of a point: one that Python would take for it, when it counts from the end, among them.
            for at in range(4):
                self.refused(self.TEXT, self.GOOD[:at] + [wrong] + self.GOOD[at + 1:])

    def test_of_a_program_without_points(self):
        self.refused("idle", [(0, 0)])
        self.refused("fence; bar", [(0, 0)])
        self.refused("idle | idle", [(-1, -1)])

    def test_a_point_twice(self):
        for at in range(4):
            for where in range(5):
                self.refused(self.TEXT, self.GOOD[:where] + [self.GOOD[at]] + self.GOOD[where:])
        self.refused("put x 1", [(0, 0), (0, 0)])
        self.refused("get a x", [(0, 0), (0, 0)])
        self.refused("swap a x 1", [(0, 0), (0, 0)])

    def test_a_point_left_out(self):
        for at in range(4):
            self.refused(self.TEXT, self.GOOD[:at] + self.GOOD[at + 1:])
        self.refused(self.TEXT, [])
        self.refused("swap a x 1", [])

    def test_a_deed_passed_over(self):
        text = "get a x; put y 1 when a 1; get b y unless a 0 | put x 1"
        read_it = [(1, 0), (0, 0)]
        self.refused(text, read_it)
        self.refused(text, read_it + [(0, 1)])
        self.refused(text, read_it + [(0, 2)])
        self.tells(text, read_it + [(0, 1), (0, 2)], {(0, 0): (1, 0), (0, 2): (0, 1)}, {"x": [(1, 0)], "y": [(0, 1)]})
        not_read = [(0, 0), (1, 0)]
        self.refused(text, not_read + [(0, 1), (0, 2)])
        self.refused(text, not_read + [(0, 1)])
        self.refused(text, not_read + [(0, 2)])
        self.tells(text, not_read, {(0, 0): None}, {"x": [(1, 0)], "y": []})

    def test_a_guard_that_asks_for_what_comes_later(self):
        text = "get a x; put x 1 when a 1"
        self.refused(text, [(0, 0), (0, 1)])
        self.refused(text, [(0, 1), (0, 0)])
        self.tells(text, [(0, 0)], {(0, 0): None}, {"x": []})


class Backward(Orders):
    """Two points of a hand that stand the other way round in the list."""

    def backward(self, text, slacks):
        """slacks: by which ones that is an order."""
        program = read(text)
        order = [(0, 1), (0, 0)]
        for slack in slacks:
            with self.subTest(text=text, slack=slack):
                self.told(program, order, slack)
        self.refused(text, order, [slack for slack in SLACKS if slack not in slacks])
        for slack in SLACKS:
            with self.subTest(text=text, slack=slack):
                self.told(program, order[::-1], slack)

    def test_a_put_and_a_get(self):
        self.backward("put x 1; get a y", (1, 2))
        self.backward("put x 1; get a x", (1, 2))
        self.backward("put x 1; bar; get a y", (1, 2))
        self.backward("put x 1; fence; get a y", ())
        self.backward("put x 1; fence when b 1; get a y", (1, 2))
        self.backward("put x 1; fence unless b 1; get a y", ())
        self.backward("fence; put x 1; get a y; fence", (1, 2))

    def test_two_puts(self):
        self.backward("put x 1; put y 1", (2,))
        self.backward("put x 1; put x 2", ())
        self.backward("put x 1; bar; put y 1", ())
        self.backward("put x 1; fence; put y 1", ())
        self.backward("put x 1; bar when b 1; put y 1", (2,))
        self.backward("put x 1; bar unless b 1; put y 1", ())
        self.backward("bar; put x 1; put y 1; bar", (2,))

    def test_others(self):
        self.backward("get a x; put y 1", ())
        self.backward("get a x; put x 1", ())
        self.backward("get a x; get b y", ())
        self.backward("get a x; get b x", ())
        self.backward("get a x; swap b y 1", ())
        self.backward("swap a x 1; put y 1", ())
        self.backward("swap a x 1; get b y", ())
        self.backward("swap a x 1; swap b y 1", ())
        self.backward("put x 1; swap b y 1", ())

    def test_past_a_point_between(self):
        text = "put x 1; get a z; put y 1"
        self.tells(text, [(0, 1), (0, 2), (0, 0)], {(0, 1): None}, {"x": [(0, 0)], "y": [(0, 2)], "z": []}, (2,))
        self.tells(text, [(0, 1), (0, 0), (0, 2)], {(0, 1): None}, {"x": [(0, 0)], "y": [(0, 2)], "z": []}, (1, 2))
        self.refused(text, [(0, 2), (0, 0), (0, 1)])
        self.refused("put x 1; swap a z 1; put y 1", [(0, 1), (0, 2), (0, 0)])
        self.refused("put x 1; bar; get a z; put y 1", [(0, 1), (0, 2), (0, 0)])

    def test_other_hands_do_not_count(self):
        text = "put x 1; put y 1 | put x 2; bar; fence; put y 2"
        lines = {"x": [(0, 0), (1, 0)], "y": [(0, 1), (1, 1)]}
        self.tells(text, [(0, 1), (0, 0), (1, 0), (1, 1)], {}, lines, (2,))
        self.refused(text, [(1, 1), (0, 0), (1, 0), (0, 1)])


class Runs(Orders):
    def test_a_put_that_waits(self):
        program = read("put x 1; get a y | put y 1; get b x")
        order = [(0, 1), (1, 1), (1, 0), (0, 0)]
        self.assertEqual(self.told(program, order, 1), tale_of({(0, 1): None, (1, 1): None}, {
            "x": [(0, 0)], "y": [(1, 0)],
        }))
        moves = run_by(program, order, 1)
        self.assertEqual(sorted(moves), [
            ("do", 0), ("do", 0), ("do", 1), ("do", 1), ("settle", 0, "x"), ("settle", 1, "y"),
        ])
        self.assertGreater(moves.index(("settle", 0, "x")), moves.index(("settle", 1, "y")))

    def test_by_slack_nought_nothing_settles(self):
        moves = run_by(read("put x 1; bar; get a y; fence"), [(0, 0), (0, 1)], 0)
        self.assertEqual(moves, [("do", 0)] * 4)

    def test_bars_and_fences_at_the_end_are_done(self):
        for slack in SLACKS:
            program = read("bar; fence; put x 1; bar; fence; bar | fence; fence; bar")
            with self.subTest(slack):
                self.told(program, [(0, 0)], slack)
                moves = run_by(program, [(0, 0)], slack)
                self.assertEqual([moves.count(("do", h)) for h in (0, 1)], [6, 3])

    def test_rows_with_bars(self):
        text = "put x 1; put y 1; bar; put x 2; bar; bar; put y 2; get a x; get b y"
        lines = {"x": [(0, 0), (0, 2)], "y": [(0, 1), (0, 3)]}
        froms = {(0, 4): (0, 2), (0, 5): (0, 3)}
        self.tells(text, [(0, 4), (0, 1), (0, 0), (0, 5), (0, 2), (0, 3)], froms, lines, (2,))
        self.tells(text, [(0, 0), (0, 1), (0, 2), (0, 4), (0, 5), (0, 3)], froms, lines, (1, 2))
        self.refused(text, [(0, 0), (0, 2), (0, 1), (0, 3), (0, 4), (0, 5)])
        self.refused(text, [(0, 1), (0, 0), (0, 3), (0, 2), (0, 4), (0, 5)])

    def test_all_lists_of_small_programs(self):
        """All lists of some of the points: those that are orders tell just the tales that runs have."""
        for text in TEXTS:
            program = read(text)
            if len(points(program)) > 5:
                continue
            for slack in SLACKS:
                with self.subTest(text=text, slack=slack):
                    told = set()
                    for some in some_of(points(program)):
                        for order in itertools.permutations(some):
                            try:
                                tale_by(program, list(order), slack)
                            except NoOrder:
                                with self.assertRaises(NoOrder):
                                    run_by(program, list(order), slack)
                                continue
                            told.add(repr(self.told(program, list(order), slack)))
                    self.assertEqual(told, set(ends_of(program, slack)))

    def test_an_order_by_greater_slacks_tells_the_same(self):
        for text in TEXTS:
            program = read(text)
            for slack, greater in ((0, 1), (0, 2), (1, 2)):
                for turn in range(5):
                    with self.subTest(text=text, slack=slack, greater=greater, turn=turn):
                        moves, tale = some_run(program, slack, turn)
                        order = order_by(program, moves, slack)
                        self.assertEqual(self.told(program, order, slack), tale)
                        self.assertEqual(self.told(program, order, greater), tale)

    def test_orders_of_runs_of_six_hands_and_forty_deeds(self):
        for text in GREAT:
            program = read(text)
            for slack in SLACKS:
                for turn in range(8):
                    with self.subTest(text=text, slack=slack, turn=turn):
                        moves, tale = some_run(program, slack, turn)
                        self.assertEqual(self.told(program, order_by(program, moves, slack), slack), tale)

    def test_what_the_judge_tells_of_six_hands_and_forty_deeds(self):
        for text in GREAT:
            program = read(text)
            for slack in SLACKS:
                for turn in range(8):
                    with self.subTest(text=text, slack=slack, turn=turn):
                        tale = some_run(program, slack, turn)[1]
                        self.assertEqual(self.told(program, judged(program, tale, slack)[1], slack), tale)


if __name__ == "__main__":
    unittest.main()
