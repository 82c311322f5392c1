import copy
import unittest

from latewrite.errors import NoMove
from latewrite.machines import Late, Loose, Machine, machine
from latewrite.texts import read

SLACKS = (0, 1, 2)
BUFFERING = "put x 1; get a y | put y 2; get b x"
FORTY = "; ".join(["put x 1; put y 2; bar; get a x"] * 10)


def moves_of(text):
    """Moves written shortly: `0` does hand 0's due deed, `0:x` settles its x."""
    moves = []
    for word in text.split():
        hand, colon, place = word.partition(":")
        moves.append(("settle", int(hand), place) if colon else ("do", int(hand)))
    return moves


def standing(one, names=("x", "y", "z", "a", "b", "c", "nothere")):
    """All that a machine tells."""
    hands = range(len(one.outcome()[0]))
    return copy.deepcopy((
        type(one),
        one.moves(),
        [one.due(h) for h in hands],
        [one.row(h) for h in hands],
        [one.line(name) for name in names],
        [one.told(h, name) for h in hands for name in names],
        [one.cup(h, name) for h in hands for name in names],
        one.tale(),
        one.outcome(),
        one.ended(),
    ))


class Machines(unittest.TestCase):
    def made(self, text, slack, moves=""):
        one = machine(read(text), slack)
        self.walk(one, moves)
        return one

    def walk(self, one, moves):
        for move in moves_of(moves):
            self.assertIn(move, one.moves())
            self.assertIsNone(one.do(move))

    def goes(self, text, slack, script):
        """script: pairs of a move (None at first) and all moves that can be done behind it, in order."""
        one = machine(read(text), slack)
        for move, wanted in script:
            if move is not None:
                self.assertIsNone(one.do(moves_of(move)[0]))
            with self.subTest(slack=slack, move=move):
                self.assertEqual(one.moves(), moves_of(wanted))
                self.assertIs(one.ended(), wanted == "")
        self.assertTrue(one.ended())
        return one

    def refuses(self, one, move):
        ahead = standing(one)
        with self.assertRaises(NoMove):
            one.do(move)
        self.assertEqual(standing(one), ahead)


class Making(Machines):
    def test_classes(self):
        self.assertEqual(Late.__bases__, (Machine,))
        self.assertEqual(Loose.__bases__, (Late,))
        for slack, kind in ((0, Machine), (1, Late), (2, Loose)):
            with self.subTest(slack):
                self.assertIs(type(machine(read(BUFFERING), slack)), kind)
                self.assertIs(type(machine(read(BUFFERING), slack=slack)), kind)

    def test_slack_left_out_is_two(self):
        self.assertIs(type(machine(read(BUFFERING))), Loose)

    def test_each_class_is_made_with_the_program_alone(self):
        for slack, kind in ((0, Machine), (1, Late), (2, Loose)):
            with self.subTest(slack):
                self.assertEqual(standing(kind(read(BUFFERING))), standing(machine(read(BUFFERING), slack)))

    def test_at_first_all_is_empty(self):
        for slack in SLACKS:
            with self.subTest(slack):
                one = self.made(BUFFERING, slack)
                self.assertEqual([one.row(0), one.row(1), one.line("x"), one.line("y")], [[], [], [], []])
                self.assertEqual(one.tale(), ([], [("x", []), ("y", [])]))
                self.assertEqual(one.outcome(), (((("a", 0),), (("b", 0),)), (("x", 0), ("y", 0))))
                self.assertIs(one.ended(), False)

    def test_program_without_deeds_has_ended_at_once(self):
        for slack in SLACKS:
            for text in ("idle", "idle | idle | idle"):
                with self.subTest(slack=slack, text=text):
                    one = self.made(text, slack)
                    self.assertIs(one.ended(), True)
                    self.assertEqual(one.moves(), [])
                    self.assertEqual(one.tale(), ([], []))
                    self.assertEqual(one.outcome(), (tuple(() for hand in text.split("|")), ()))
                    self.assertIsNone(one.due(0))
                    self.refuses(one, ("do", 0))

    def test_program_whose_deeds_are_all_passed_over_has_ended_at_once(self):
        for slack in SLACKS:
            with self.subTest(slack):
                one = self.made("put x 1 when a 1; fence unless b 0; get a y when c -1", slack)
                self.assertIs(one.ended(), True)
                self.assertEqual(one.tale(), ([], [("x", []), ("y", [])]))
                self.assertEqual(one.outcome(), (((("a", 0), ("b", 0), ("c", 0)),), (("x", 0), ("y", 0))))


class WholeRuns(Machines):
    def test_slack_nought(self):
        one = self.goes(BUFFERING, 0, [
            (None, "0 1"), ("0", "0 1"), ("1", "0 1"), ("1", "0"), ("0", ""),
        ])
        self.assertEqual(one.tale(), ([((0, 1), (1, 0)), ((1, 1), (0, 0))], [("x", [(0, 0)]), ("y", [(1, 0)])]))
        self.assertEqual(one.outcome(), (((("a", 2),), (("b", 1),)), (("x", 1), ("y", 2))))

    def test_slack_one(self):
        one = self.goes(BUFFERING, 1, [
            (None, "0 1"), ("0", "0 0:x 1"), ("1", "0 0:x 1 1:y"), ("1", "0 0:x 1:y"), ("0", "0:x 1:y"),
            ("1:y", "0:x"), ("0:x", ""),
        ])
        self.assertEqual(one.tale(), ([((0, 1), None), ((1, 1), None)], [("x", [(0, 0)]), ("y", [(1, 0)])]))
        self.assertEqual(one.outcome(), (((("a", 0),), (("b", 0),)), (("x", 1), ("y", 2))))

    def test_slack_two(self):
        text = "put y 1; put x 2; bar; put x 3; get a y | get b x; swap c y 4"
        one = self.goes(text, 2, [
            (None, "0 1"), ("0", "0 0:y 1"), ("0", "0 0:x 0:y 1"), ("0", "0 0:x 0:y 1"), ("0", "0 0:x 0:y 1"),
            ("0:x", "0 0:y 1"), ("1", "0 0:y 1"), ("0", "0:y 1"), ("1", "0:y"), ("0:y", "0:x"), ("0:x", ""),
        ])
        froms = [((0, 3), (0, 0)), ((1, 0), (0, 1)), ((1, 1), None)]
        self.assertEqual(one.tale(), (froms, [("x", [(0, 1), (0, 2)]), ("y", [(1, 1), (0, 0)])]))
        self.assertEqual(one.outcome(), (((("a", 1),), (("b", 2), ("c", 0))), (("x", 3), ("y", 1))))

    def test_the_same_deeds_by_slack_one_come_in_order_alone(self):
        text = "put y 1; put x 2; bar; put x 3; get a y"
        self.goes(text, 1, [
            (None, "0"), ("0", "0 0:y"), ("0", "0 0:y"), ("0", "0 0:y"), ("0", "0 0:y"), ("0", "0:y"),
            ("0:y", "0:x"), ("0:x", "0:x"), ("0:x", ""),
        ])

    def test_the_same_deeds_by_slack_nought_never_settle(self):
        text = "put y 1; put x 2; bar; put x 3; get a y"
        self.goes(text, 0, [(None, "0"), ("0", "0"), ("0", "0"), ("0", "0"), ("0", "0"), ("0", "")])

    def test_hands_come_by_number_and_places_by_name(self):
        text = "put b 1; put ab 1; put aa 1; put a 1 | idle | put z 1; put y 1"
        one = self.made(text, 2, "0 0 0 0 2 2")
        self.assertEqual(one.moves(), moves_of("0:a 0:aa 0:ab 0:b 2:y 2:z"))
        one = self.made(text, 2, "0 0 2 2 0")
        self.assertEqual(one.moves(), moves_of("0 0:aa 0:ab 0:b 2:y 2:z"))

    def test_a_place_is_settled_by_one_move_however_many_wait_for_it(self):
        one = self.made("put x 1; put x 2; put y 3; put x 4", 2, "0 0 0 0")
        self.assertEqual(one.moves(), moves_of("0:x 0:y"))
        self.walk(one, "0:x")
        self.assertEqual(one.line("x"), [(0, 0)])
        self.walk(one, "0:x 0:x")
        self.assertEqual(one.line("x"), [(0, 0), (0, 1), (0, 3)])
        self.assertEqual(one.row(0), [(0, 2)])

    def test_forty_deeds(self):
        for slack in SLACKS:
            with self.subTest(slack):
                one = machine(read(FORTY), slack)
                count = 0
                while not one.ended():
                    one.do(one.moves()[0])
                    count += 1
                self.assertEqual(count, 40 + (0 if slack == 0 else 20))
                self.assertEqual(one.row(0), [])
                self.assertEqual(one.line("x"), [(0, k) for k in range(0, 30, 3)])
                self.assertEqual(one.outcome(), (((("a", 1),),), (("x", 1), ("y", 2))))


class Reading(Machines):
    def test_a_get_reads_the_newest_of_its_own_row(self):
        for slack in (1, 2):
            with self.subTest(slack):
                one = self.made("put x 1; put x 2; put y 3; get a x | get b x", slack, "0 0 0 0 1")
                self.assertEqual(one.row(0), [(0, 0), (0, 1), (0, 2)])
                self.assertEqual((one.cup(0, "a"), one.cup(1, "b")), (2, 0))
                self.assertEqual(one.tale()[0], [((0, 3), (0, 1)), ((1, 0), None)])

    def test_its_row_goes_ahead_of_the_line(self):
        for slack in (1, 2):
            with self.subTest(slack):
                one = self.made("put x 1; get a x; get b x | put x 7", slack, "0 1 1:x 0")
                self.assertEqual((one.told(0, "x"), one.told(1, "x")), ((0, 0), (1, 0)))
                self.assertEqual(one.cup(0, "a"), 1)
                self.walk(one, "0:x 0")
                self.assertEqual((one.told(0, "x"), one.told(1, "x")), ((0, 0), (0, 0)))
                self.assertEqual(one.line("x"), [(1, 0), (0, 0)])

    def test_what_has_settled_and_was_written_over_is_no_longer_told(self):
        for slack in (1, 2):
            with self.subTest(slack):
                one = self.made("put x 1; get a x | put x 7", slack, "0 1 0:x 1:x 0")
                self.assertEqual(one.cup(0, "a"), 7)
                self.assertEqual(one.tale(), ([((0, 1), (1, 0))], [("x", [(0, 0), (1, 0)])]))

    def test_a_row_of_other_places_is_not_read(self):
        one = self.made("put y 5; get a x | put x 3", 2, "0 1 1:x 0")
        self.assertEqual(one.cup(0, "a"), 3)
        self.assertEqual(one.tale()[0], [((0, 1), (1, 0))])

    def test_past_a_bar(self):
        one = self.made("put x 4; bar; get a x; put x 5; bar; get b x", 2, "0 0 0 0 0 0")
        self.assertEqual((one.cup(0, "a"), one.cup(0, "b")), (4, 5))
        self.assertEqual(one.tale(), ([((0, 1), (0, 0)), ((0, 3), (0, 2))], [("x", [])]))

    def test_told_is_what_a_get_would_have(self):
        for slack in SLACKS:
            with self.subTest(slack):
                one = self.made("put x 1; put x 2; put y 3 | swap c y 9; get c x", slack)
                self.assertEqual([one.told(h, name) for h in (0, 1) for name in "xy"], [None] * 4)
                self.walk(one, "0 0")
                seen = (0, 1) if slack == 0 else None
                self.assertEqual([one.told(0, "x"), one.told(1, "x")], [(0, 1), seen])
                self.walk(one, "1 0")
                self.assertEqual(one.told(0, "y"), (0, 2))
                self.assertEqual(one.told(1, "y"), (0, 2) if slack == 0 else (1, 0))

    def test_at_once_by_slack_nought(self):
        one = self.made("put x 1; put x 2; get a x | put x 3", 0, "0 1 0 0")
        self.assertEqual(one.line("x"), [(0, 0), (1, 0), (0, 1)])
        self.assertEqual(one.row(0), [])
        self.assertEqual(one.cup(0, "a"), 2)

    def test_a_cup_filled_again(self):
        for slack in SLACKS:
            with self.subTest(slack):
                one = self.made("put x 1; get a x; get a y", slack, "0 0")
                self.assertEqual(one.cup(0, "a"), 1)
                self.walk(one, "0")
                self.assertEqual(one.cup(0, "a"), 0)

    def test_great_numbers(self):
        for slack in SLACKS:
            with self.subTest(slack):
                one = self.made("put x " + "9" * 60 + "; get a x; swap b x -" + "9" * 60, slack)
                while not one.ended():
                    one.do(one.moves()[-1])
                great = int("9" * 60)
                self.assertEqual(one.outcome(), (((("a", great), ("b", great)),), (("x", -great),)))

    def test_cups_called_like_places_and_like_cups_of_other_hands(self):
        for slack in SLACKS:
            with self.subTest(slack):
                one = self.made("put x 1; get x x; get y x | get x y", slack, "0 0 1")
                self.assertEqual([one.cup(h, name) for h in (0, 1) for name in "xy"], [1, 0, 0, 0])


class Names(Machines):
    def test_names_that_no_deed_has(self):
        for slack in SLACKS:
            for moves in ("", "0", "0 1", "0 1 0 1"):
                with self.subTest(slack=slack, moves=moves):
                    one = self.made(BUFFERING, slack, moves)
                    for name in ("z", "a", "b", "xx", "nothere"):
                        self.assertEqual(one.line(name), [])
                        self.assertIsNone(one.told(0, name))
                        self.assertIsNone(one.told(1, name))
                    for name in ("z", "x", "y", "aa", "nothere"):
                        self.assertEqual((one.cup(0, name), one.cup(1, name)), (0, 0))
                    self.assertEqual((one.cup(0, "b"), one.cup(1, "a")), (0, 0))

    def test_asking_for_a_name_does_not_bring_it_in(self):
        for slack in SLACKS:
            with self.subTest(slack):
                one = self.made(BUFFERING, slack)
                one.line("z").append((0, 0))
                one.told(0, "z")
                one.cup(0, "z")
                self.assertEqual(one.line("z"), [])
                self.assertEqual(standing(one), standing(self.made(BUFFERING, slack)))


class Stops(Machines):
    def test_swap_and_fence_wait_for_the_row(self):
        for slack in (1, 2):
            for word in ("swap a y 3", "swap a x 3", "fence"):
                with self.subTest(slack=slack, word=word):
                    one = self.made("put x 1; put x 2; " + word + "; put y 4 | idle", slack, "0 0")
                    self.assertEqual(one.moves(), moves_of("0:x"))
                    self.refuses(one, ("do", 0))
                    self.walk(one, "0:x")
                    self.assertEqual(one.moves(), moves_of("0:x"))
                    self.refuses(one, ("do", 0))
                    self.walk(one, "0:x")
                    self.assertEqual(one.moves(), moves_of("0"))
                    self.walk(one, "0 0")

    def test_by_slack_nought_they_never_wait(self):
        self.goes("put x 1; fence; put y 1; swap a x 2; fence", 0, [
            (None, "0"), ("0", "0"), ("0", "0"), ("0", "0"), ("0", "0"), ("0", ""),
        ])

    def test_rows_of_other_hands_do_not_count(self):
        for slack in (1, 2):
            with self.subTest(slack):
                one = self.made("put x 1 | swap a x 2; fence; swap b y 3", slack, "0")
                self.assertEqual(one.moves(), moves_of("0:x 1"))
                self.walk(one, "1 1 1 0:x")
                self.assertEqual(one.line("x"), [(1, 0), (0, 0)])
                self.assertEqual(one.cup(1, "a"), 0)

    def test_a_swap_reads_and_writes_at_once(self):
        for slack in SLACKS:
            with self.subTest(slack):
                one = self.made("swap a x 5; get c x | swap b x 6; swap b x 7", slack, "1")
                self.assertEqual((one.line("x"), one.row(1)), ([(1, 0)], []))
                self.walk(one, "0 1 0")
                self.assertEqual(one.line("x"), [(1, 0), (0, 0), (1, 1)])
                froms = [((0, 0), (1, 0)), ((0, 1), (1, 1)), ((1, 0), None), ((1, 1), (0, 0))]
                self.assertEqual(one.tale()[0], froms)
                self.assertEqual([one.cup(0, "a"), one.cup(0, "c"), one.cup(1, "b")], [6, 7, 5])

    def test_fence_and_bar_leave_no_mark(self):
        for slack in SLACKS:
            for word in ("fence", "bar"):
                with self.subTest(slack=slack, word=word):
                    one = self.made(word + " | put x 1", slack, "0")
                    self.assertEqual(standing(one)[3:], standing(self.made("idle | put x 1", slack))[3:])

    def test_settling_does_not_pass_a_bar(self):
        one = self.made("put x 1; bar; put y 2; put x 3", 2, "0 0 0 0")
        self.assertEqual(one.row(0), [(0, 0), (0, 1), (0, 2)])
        self.assertEqual(one.moves(), moves_of("0:x"))
        self.refuses(one, ("settle", 0, "y"))
        self.walk(one, "0:x")
        self.assertEqual(one.moves(), moves_of("0:x 0:y"))
        self.walk(one, "0:x 0:y")
        self.assertEqual((one.line("x"), one.line("y")), ([(0, 0), (0, 2)], [(0, 1)]))

    def test_a_bar_stays_while_any_point_stands_ahead_of_it(self):
        one = self.made("put x 1; put y 2; bar; put z 3", 2, "0 0 0 0")
        self.walk(one, "0:y")
        self.assertEqual(one.moves(), moves_of("0:x"))
        self.refuses(one, ("settle", 0, "z"))
        self.walk(one, "0:x")
        self.assertEqual(one.moves(), moves_of("0:z"))

    def test_a_bar_at_the_end_of_a_row_goes_out_with_the_last_point(self):
        one = self.made("put x 1; bar; bar; fence; put y 1; put x 2", 2, "0 0 0")
        self.assertEqual(one.row(0), [(0, 0)])
        self.assertEqual(one.moves(), moves_of("0:x"))
        self.walk(one, "0:x")
        self.assertEqual(one.row(0), [])
        self.walk(one, "0 0 0")
        self.assertEqual(one.moves(), moves_of("0:x 0:y"))

    def test_a_bar_into_an_empty_row_goes_out_at_once(self):
        one = self.made("bar; fence; bar; put y 1; put x 2; bar; put x 3", 2, "0 0 0 0 0")
        self.assertEqual(one.moves(), moves_of("0 0:x 0:y"))
        self.walk(one, "0:x 0:y 0 0")
        self.assertEqual(one.moves(), moves_of("0:x"))

    def test_bars_side_by_side(self):
        one = self.made("put x 1; bar; bar; put y 2; bar; put x 3", 2, "0 0 0 0 0 0")
        self.assertEqual(one.moves(), moves_of("0:x"))
        self.walk(one, "0:x")
        self.assertEqual(one.moves(), moves_of("0:y"))
        self.walk(one, "0:y")
        self.assertEqual(one.moves(), moves_of("0:x"))

    def test_by_slack_one_a_bar_does_nothing(self):
        one = self.made("put x 1; bar; put y 2", 1, "0 0 0")
        self.assertEqual(one.moves(), moves_of("0:x"))
        self.walk(one, "0:x")
        self.assertEqual(one.moves(), moves_of("0:y"))

    def test_a_bar_that_is_passed_over_is_not_there(self):
        one = self.made("put x 1; bar when a 1; put y 2", 2, "0 0")
        self.assertEqual(one.moves(), moves_of("0:x 0:y"))
        one = self.made("put x 1; bar unless a 1; put y 2", 2, "0 0 0")
        self.assertEqual(one.moves(), moves_of("0:x"))

    def test_a_fence_that_is_passed_over_is_not_there(self):
        for slack in (1, 2):
            with self.subTest(slack):
                one = self.made("put x 1; fence when a 1; get b y", slack, "0")
                self.assertEqual(one.due(0), (1, ("get", "b", "y", None)))
                self.assertEqual(one.moves(), moves_of("0 0:x"))

    def test_each_hand_has_bars_of_its_own(self):
        one = self.made("put x 1; bar | put x 2; put y 3", 2, "0 0 1 1")
        self.assertEqual(one.moves(), moves_of("0:x 1:x 1:y"))


class Settling(Machines):
    TEXT = "put x 1; put y 2; put x 3"

    def test_out_of_order_by_place_by_slack_two(self):
        one = self.made(self.TEXT, 2, "0 0 0 0:y")
        self.assertEqual((one.row(0), one.line("x"), one.line("y")), ([(0, 0), (0, 2)], [], [(0, 1)]))
        self.walk(one, "0:x")
        self.assertEqual((one.row(0), one.line("x")), ([(0, 2)], [(0, 0)]))
        one = self.made(self.TEXT, 2, "0 0 0 0:x 0:x")
        self.assertEqual((one.row(0), one.line("x")), ([(0, 1)], [(0, 0), (0, 2)]))

    def test_in_order_alone_by_slack_one(self):
        one = self.made(self.TEXT, 1, "0 0 0")
        self.refuses(one, ("settle", 0, "y"))
        self.walk(one, "0:x")
        self.refuses(one, ("settle", 0, "x"))
        self.walk(one, "0:y 0:x")
        self.assertEqual((one.row(0), one.line("x"), one.line("y")), ([], [(0, 0), (0, 2)], [(0, 1)]))

    def test_never_by_slack_nought(self):
        one = self.made(self.TEXT, 0)
        for move in ("0", "0", "0", None):
            for place in ("x", "y", "z"):
                self.refuses(one, ("settle", 0, place))
            if move is not None:
                self.walk(one, move)
        self.assertTrue(one.ended())

    def test_rows_of_unlike_hands_come_in_any_order(self):
        for slack in (1, 2):
            with self.subTest(slack):
                one = self.made("put x 1 | put x 2 | put x 3", slack, "0 1 2 1:x 2:x 0:x")
                self.assertEqual(one.line("x"), [(1, 0), (2, 0), (0, 0)])
                self.assertEqual(one.outcome()[1], (("x", 1),))


class Due(Machines):
    GUARDED = (
        "fence; get a x; put y 1 when a 0; put y 2 unless a 0; bar when a 5; swap a y 3 when a 0; "
        "fence unless a 0; put x 4 | put x 5"
    )

    def test_numbers_count_points_done_and_passed_over(self):
        for slack in SLACKS:
            with self.subTest(slack):
                one = self.made(self.GUARDED, slack)
                self.assertEqual(one.due(0), (0, ("fence", None)))
                self.walk(one, "0")
                self.assertEqual(one.due(0), (0, ("get", "a", "x", None)))
                self.walk(one, "0")
                self.assertEqual(one.due(0), (1, ("put", "y", 1, ("when", "a", 0))))
                self.walk(one, "0" if slack == 0 else "0 0:y")
                self.assertEqual(one.due(0), (3, ("swap", "a", "y", 3, ("when", "a", 0))))
                self.walk(one, "0")
                self.assertEqual(one.due(0), (4, ("fence", ("unless", "a", 0))))
                self.walk(one, "0")
                self.assertEqual(one.due(0), (4, ("put", "x", 4, None)))
                self.walk(one, "0")
                self.assertIsNone(one.due(0))
                self.assertEqual(one.tale()[0], [((0, 0), None), ((0, 3), (0, 1))])

    def test_what_is_read_settles_the_guards(self):
        for slack in SLACKS:
            with self.subTest(slack):
                one = self.made(self.GUARDED, slack, "1 0" if slack == 0 else "1 1:x 0")
                self.walk(one, "0")
                self.assertEqual(one.due(0), (2, ("put", "y", 2, ("unless", "a", 0))))
                self.walk(one, "0")
                self.assertEqual(one.due(0), (3, ("bar", ("when", "a", 5))))
                self.walk(one, "0")
                self.assertEqual(one.due(0), (3 + 1, ("fence", ("unless", "a", 0))))

    def test_a_deed_is_due_also_where_it_can_not_be_done_yet(self):
        for slack in (1, 2):
            for word, deed in (("fence", ("fence", None)), ("swap a y 1", ("swap", "a", "y", 1, None))):
                with self.subTest(slack=slack, word=word):
                    one = self.made("put x 1; " + word, slack, "0")
                    self.assertEqual(one.due(0), (1, deed))
                    self.refuses(one, ("do", 0))

    def test_a_deed_passed_over_stays_so(self):
        for slack in SLACKS:
            with self.subTest(slack):
                one = self.made("put x 1 when a 7; get a y; put z 2 when a 7 | put y 7", slack)
                self.walk(one, "1" if slack == 0 else "1 1:y")
                self.walk(one, "0")
                self.assertEqual(one.due(0), (2, ("put", "z", 2, ("when", "a", 7))))
                self.assertEqual(one.cup(0, "a"), 7)
                self.walk(one, "0" if slack == 0 else "0 0:z")
                self.assertTrue(one.ended())
                self.assertEqual(one.line("x"), [])

    def test_a_deed_whose_guard_holds_when_the_hand_comes_to_it_stays_due(self):
        # The cup is filled by the hand alone, whatever the others do to the place.
        for slack in SLACKS:
            with self.subTest(slack):
                one = self.made("get a y; put x 1 when a 0 | put y 7", slack, "0")
                self.walk(one, "1" if slack == 0 else "1 1:y")
                self.assertEqual(one.due(0), (1, ("put", "x", 1, ("when", "a", 0))))

    def test_a_guard_asks_the_cups_of_its_own_hand_alone(self):
        for slack in SLACKS:
            with self.subTest(slack):
                one = self.made("put x 3; get a x | put y 1 when a 3; put y 2 unless a 3", slack, "0 0")
                self.assertEqual(one.due(1), (1, ("put", "y", 2, ("unless", "a", 3))))

    def test_a_guard_of_the_cup_that_its_own_deed_fills(self):
        for slack in SLACKS:
            with self.subTest(slack):
                one = self.made("get a x when a 0; get a x when a 0; get a x when a 5 | put x 5", slack, "0")
                self.assertEqual(one.due(0)[0], 1)
                self.walk(one, "1" if slack == 0 else "1 1:x")
                self.walk(one, "0")
                self.assertEqual(one.due(0)[0], 2)

    def test_asking_does_not_change(self):
        for slack in SLACKS:
            with self.subTest(slack):
                one = self.made(self.GUARDED, slack, "0")
                self.assertEqual(standing(one), standing(one))


class Refusing(Machines):
    STRANGE = [
        ("do", -1), ("do", 2), ("do", 99), ("do", -2),
        ("settle", -1, "x"), ("settle", -2, "x"), ("settle", 2, "x"), ("settle", 99, "y"),
        ("settle", 0, "z"), ("settle", 0, "a"), ("settle", 1, "nothere"), ("settle", 1, "x"),
    ]

    def test_hands_and_places_that_are_not_there(self):
        for slack in SLACKS:
            for moves in ("", "0", "0 1", "0 0", "0 1 0 1"):
                one = self.made(BUFFERING, slack, moves)
                for move in self.STRANGE:
                    with self.subTest(slack=slack, moves=moves, move=move):
                        self.refuses(one, move)

    def test_a_hand_that_is_through(self):
        for slack in SLACKS:
            with self.subTest(slack):
                one = self.made(BUFFERING, slack, "0 0")
                self.refuses(one, ("do", 0))
                self.walk(one, "1 1")
                self.refuses(one, ("do", 0))
                self.refuses(one, ("do", 1))

    def test_an_empty_row(self):
        for slack in SLACKS:
            with self.subTest(slack):
                one = self.made(BUFFERING, slack)
                self.refuses(one, ("settle", 0, "x"))
                self.refuses(one, ("settle", 0, "y"))

    def test_a_row_without_the_place(self):
        for slack in (1, 2):
            with self.subTest(slack):
                one = self.made(BUFFERING, slack, "0 1")
                self.refuses(one, ("settle", 0, "y"))
                self.refuses(one, ("settle", 1, "x"))
                self.walk(one, "0:x")
                self.refuses(one, ("settle", 0, "x"))

    def test_an_ended_machine(self):
        for slack in SLACKS:
            with self.subTest(slack):
                one = self.made(BUFFERING, slack, "0 0 1 1" if slack == 0 else "0 0 1 1 0:x 1:y")
                self.assertTrue(one.ended())
                for move in [("do", 0), ("do", 1), ("settle", 0, "x"), ("settle", 1, "y")] + self.STRANGE:
                    self.refuses(one, move)

    def test_it_goes_on_behind_a_refusal_as_if_there_were_none(self):
        for slack in SLACKS:
            with self.subTest(slack):
                one = self.made(BUFFERING, slack)
                other = self.made(BUFFERING, slack)
                while not one.ended():
                    for move in self.STRANGE:
                        self.refuses(one, move)
                    other.do(one.moves()[0])
                    one.do(one.moves()[0])
                    self.assertEqual(standing(one), standing(other))


class Outcomes(Machines):
    TEXT = "put y 3; get c y; get a x unless b 1 | idle | swap b x 4; put x -2"

    def test_in_the_middle_of_a_run(self):
        one = self.made(self.TEXT, 2, "0 0 2")
        cups = ((("a", 0), ("b", 0), ("c", 3)), (), (("b", 0),))
        self.assertEqual(one.outcome(), (cups, (("x", 4), ("y", 0))))
        self.walk(one, "2")
        self.assertEqual(one.outcome(), (cups, (("x", 4), ("y", 0))))
        self.walk(one, "2:x")
        self.assertEqual(one.outcome(), (cups, (("x", -2), ("y", 0))))

    def test_at_the_end(self):
        for slack, moves in ((0, "0 0 2 2 0"), (1, "0 0 2 2 2:x 0:y 0"), (2, "2 2 2:x 0 0 0 0:y")):
            with self.subTest(slack):
                one = self.made(self.TEXT, slack, moves)
                self.assertTrue(one.ended())
                cups = ((("a", -2), ("b", 0), ("c", 3)), (), (("b", 0),))
                self.assertEqual(one.outcome(), (cups, (("x", -2), ("y", 3))))

    def test_kinds(self):
        for slack in SLACKS:
            with self.subTest(slack):
                outcome = self.made(self.TEXT, slack, "0").outcome()
                self.assertEqual([type(part) for part in outcome], [tuple, tuple])
                self.assertEqual([type(hand) for hand in outcome[0]], [tuple] * 3)
                pairs = [pair for hand in outcome[0] for pair in hand] + list(outcome[1])
                self.assertEqual({type(pair) for pair in pairs}, {tuple})


class Tales(Machines):
    def test_readers_and_places_by_their_order(self):
        text = "get b y; get a x | put y 1; swap c x 2 | put z 5 when a 1"
        for slack, moves in ((0, "1 1 0 0"), (1, "1 1:y 1 0 0"), (2, "1 1:y 1 0 0")):
            with self.subTest(slack):
                one = self.made(text, slack, moves)
                froms = [((0, 0), (1, 0)), ((0, 1), (1, 1)), ((1, 1), None)]
                self.assertEqual(one.tale(), (froms, [("x", [(1, 1)]), ("y", [(1, 0)]), ("z", [])]))

    def test_more_than_nine_readers_stand_by_number(self):
        one = self.made("; ".join(["get a x"] * 12) + " | get a x", 2, "1 " + "0 " * 12)
        self.assertEqual(one.tale()[0], [((0, k), None) for k in range(12)] + [((1, 0), None)])

    def test_kinds(self):
        tale = self.made(BUFFERING, 1, "0 0 0:x").tale()
        self.assertEqual([type(tale), type(tale[0]), type(tale[1])], [tuple, list, list])
        self.assertEqual([type(pair) for pair in tale[0] + tale[1]], [tuple] * 3)
        self.assertEqual([type(points) for place, points in tale[1]], [list, list])
        self.assertEqual(type(tale[1][0][1][0]), tuple)


class OwnLists(Machines):
    TEXT = "put x 1; put y 2; get a x | get b y"

    def test_the_program_handed_in_is_not_changed(self):
        for slack in SLACKS:
            with self.subTest(slack):
                program = read(self.TEXT)
                one = machine(program, slack)
                while not one.ended():
                    one.do(one.moves()[-1])
                self.assertEqual(program, read(self.TEXT))

    def test_it_keeps_the_program_as_it_was_when_made(self):
        for slack in SLACKS:
            with self.subTest(slack):
                program = read(self.TEXT)
                one = machine(program, slack)
                other = machine(read(self.TEXT), slack)
                program[0].insert(0, ("put", "z", 9, None))
                program[1].clear()
                program.append([("fence", None)])
                self.assertEqual(standing(one), standing(other))
                while not other.ended():
                    one.do(other.moves()[0])
                    other.do(other.moves()[0])
                    program[0].reverse()
                    program[0].pop()
                    program[0].append(("put", "x", 99, None))
                    self.assertEqual(standing(one), standing(other))

    def test_lists_told_earlier_stay_as_they_were_told(self):
        for slack in SLACKS:
            with self.subTest(slack):
                one = machine(read(self.TEXT), slack)
                told = []
                while True:
                    lists = (one.moves(), one.row(0), one.line("x"), one.line("y"), one.tale())
                    told.append((lists, copy.deepcopy(lists)))
                    if one.ended():
                        break
                    one.do(one.moves()[0])
                for lists, kept in told:
                    self.assertEqual(lists, kept)

    def test_changing_what_is_told_changes_nothing(self):
        for slack in SLACKS:
            with self.subTest(slack):
                one = machine(read(self.TEXT), slack)
                while not one.ended():
                    ahead = standing(one)
                    one.moves().clear()
                    one.row(0).clear()
                    one.row(1).append((7, 7))
                    one.line("x").append((7, 7))
                    one.line("y").clear()
                    tale = one.tale()
                    tale[1][0][1].append((7, 7))
                    tale[1][1][1].clear()
                    tale[0].append(((7, 7), None))
                    tale[1].pop()
                    self.assertEqual(standing(one), ahead)
                    one.do(one.moves()[-1])


class Twins(Machines):
    TEXT = "put x 1; bar; put y 2; get a x; fence; put x 3 when a 1 | swap b x 4; put y 5 unless b 0"

    def run_of(self, slack):
        one = machine(read(self.TEXT), slack)
        moves = []
        while not one.ended():
            moves.append(one.moves()[len(moves) % len(one.moves())])
            one.do(moves[-1])
        return moves

    def test_a_twin_stands_as_it_does_and_goes_on_by_itself(self):
        for slack in SLACKS:
            moves = self.run_of(slack)
            for cut in range(len(moves) + 1):
                with self.subTest(slack=slack, cut=cut):
                    one = machine(read(self.TEXT), slack)
                    for move in moves[:cut]:
                        one.do(move)
                    ahead = standing(one)
                    other = one.twin()
                    self.assertIsNot(other, one)
                    self.assertEqual(standing(other), ahead)
                    for move in moves[cut:]:
                        other.do(move)
                    self.assertTrue(other.ended())
                    self.assertEqual(standing(one), ahead)
                    ended = standing(other)
                    for move in moves[cut:]:
                        one.do(move)
                    self.assertEqual(standing(one), ended)
                    self.assertEqual(standing(other), ended)

    def test_twins_of_twins(self):
        for slack in SLACKS:
            with self.subTest(slack):
                first = machine(read(self.TEXT), slack)
                first.do(("do", 0))
                second = first.twin()
                third = second.twin()
                stands = standing(first)
                third.do(("do", 1))
                self.assertEqual((standing(first), standing(second)), (stands, stands))
                behind = standing(third)
                second.do(("do", 0))
                self.assertEqual((standing(first), standing(third)), (stands, behind))
                self.assertNotEqual(standing(second), stands)
                first.do(("do", 1))
                self.assertEqual((standing(first), standing(third)), (behind, behind))

    def test_bars_in_a_row_are_twinned_too(self):
        one = self.made("put x 1; bar; put y 2", 2, "0 0 0")
        other = one.twin()
        self.walk(one, "0:x 0:y")
        self.assertEqual(other.moves(), moves_of("0:x"))
        self.refuses(other, ("settle", 0, "y"))
        self.walk(other, "0:x 0:y")

    def test_a_twin_keeps_the_program_too(self):
        for slack in SLACKS:
            with self.subTest(slack):
                program = read(self.TEXT)
                one = machine(program, slack)
                other = one.twin()
                program[0].clear()
                program[1].append(("fence", None))
                third = other.twin()
                for move in self.run_of(slack):
                    other.do(move)
                    third.do(move)
                self.assertTrue(other.ended() and third.ended())
                self.assertEqual(standing(one), standing(machine(read(self.TEXT), slack)))

    def test_a_refusal_of_one_changes_none(self):
        for slack in SLACKS:
            with self.subTest(slack):
                one = self.made(self.TEXT, slack, "0")
                other = one.twin()
                stands = standing(one)
                self.refuses(other, ("settle", 0, "y"))
                self.assertEqual(standing(one), stands)


if __name__ == "__main__":
    unittest.main()
