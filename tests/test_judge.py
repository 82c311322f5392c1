import copy
import unittest

from latewrite.errors import NoTale
from latewrite.judge import judged
from latewrite.rules import edges
from latewrite.tales import points_of
from latewrite.texts import read

from helping import GREAT, SLACKS, TEXTS, ends_of, is_ring, keeps, some_run, tale_of, whole_tales

BY_ALL = ["order", "order", "order"]
BY_LATE = ["ring", "order", "order"]
BY_LOOSE = ["ring", "ring", "order"]
BY_NONE = ["ring", "ring", "ring"]


class Judge(unittest.TestCase):
    def told(self, program, tale, *slack):
        """The word of the answer, once it is sure that what it tells is so and that all handed in stayed as it was."""
        kept = copy.deepcopy((program, tale))
        answer = judged(program, tale, *slack)
        self.assertEqual((program, tale), kept)
        self.assertIs(type(answer), tuple)
        self.assertEqual(len(answer), 2)
        self.assertIs(type(answer[1]), list)
        found = edges(program, tale, *slack)
        if answer[0] == "order":
            self.assertEqual(sorted(answer[1]), points_of(program, tale))
            self.assertTrue(keeps(answer[1], found))
        else:
            self.assertEqual(answer[0], "ring")
            is_ring(self, answer[1], found)
        return answer[0]

    def judge(self, text, froms, lines, wanted):
        """wanted: the words by each slack."""
        with self.subTest(text=text, froms=froms, lines=lines):
            program = read(text)
            self.assertEqual([self.told(program, tale_of(froms, lines), slack) for slack in SLACKS], wanted)


class Crosswise(Judge):
    """Two hands that put and get crosswise, and both get the 0 of the beginning."""

    def both_none(self, text, wanted, **more):
        lines = {"x": [(0, 0)], "y": [(1, 0)], **more}
        self.judge(text, {(0, 1): None, (1, 1): None}, lines, wanted)

    def test_plain(self):
        self.both_none("put x 1; get a y | put y 1; get b x", BY_LATE)

    def test_one_get_that_reads_the_put(self):
        text = "put x 1; get a y | put y 1; get b x"
        lines = {"x": [(0, 0)], "y": [(1, 0)]}
        self.judge(text, {(0, 1): (1, 0), (1, 1): None}, lines, BY_ALL)
        self.judge(text, {(0, 1): None, (1, 1): (0, 0)}, lines, BY_ALL)
        self.judge(text, {(0, 1): (1, 0), (1, 1): (0, 0)}, lines, BY_ALL)

    def test_with_fences(self):
        self.both_none("put x 1; fence; get a y | put y 1; get b x", BY_LATE)
        self.both_none("put x 1; get a y | put y 1; fence; get b x", BY_LATE)
        self.both_none("put x 1; fence; get a y | put y 1; fence; get b x", BY_NONE)
        self.both_none("fence; put x 1; get a y; fence | put y 1; fence; get b x", BY_LATE)

    def test_with_fences_that_are_passed_over(self):
        self.both_none("put x 1; fence when a 1; get a y | put y 1; fence; get b x", BY_LATE)
        self.both_none("put x 1; fence unless a 1; get a y | put y 1; fence; get b x", BY_NONE)

    def test_with_bars(self):
        self.both_none("put x 1; bar; get a y | put y 1; bar; get b x", BY_LATE)
        self.both_none("put x 1; bar; get a y | put y 1; fence; get b x", BY_LATE)

    def test_with_swaps_in_the_place_of_puts(self):
        text = "swap c x 1; get a y | swap c y 1; get b x"
        froms = {(0, 0): None, (0, 1): None, (1, 0): None, (1, 1): None}
        self.judge(text, froms, {"x": [(0, 0)], "y": [(1, 0)]}, BY_NONE)
        text = "swap c x 1; get a y | put y 1; get b x"
        froms = {(0, 0): None, (0, 1): None, (1, 1): None}
        self.judge(text, froms, {"x": [(0, 0)], "y": [(1, 0)]}, BY_LATE)

    def test_with_swaps_between(self):
        text = "put x 1; swap c z 1; get a y | put y 1; swap c w 1; get b x"
        froms = {(0, 1): None, (0, 2): None, (1, 1): None, (1, 2): None}
        lines = {"w": [(1, 1)], "x": [(0, 0)], "y": [(1, 0)], "z": [(0, 1)]}
        self.judge(text, froms, lines, BY_NONE)
        text = "put x 1; swap c z 1; get a y | put y 1; get b x"
        lines = {"x": [(0, 0)], "y": [(1, 0)], "z": [(0, 1)]}
        self.judge(text, {(0, 1): None, (0, 2): None, (1, 1): None}, lines, BY_LATE)

    def test_with_gets_of_the_own_put(self):
        text = "put x 1; get a x; get b y | put y 1; get a y; get b x"
        lines = {"x": [(0, 0)], "y": [(1, 0)]}
        self.judge(text, {(0, 1): (0, 0), (0, 2): None, (1, 1): (1, 0), (1, 2): None}, lines, BY_LATE)
        fenced = "put x 1; fence; get a x; get b y | put y 1; get a y; fence; get b x"
        self.judge(fenced, {(0, 1): (0, 0), (0, 2): None, (1, 1): (1, 0), (1, 2): None}, lines, BY_NONE)


class TwoPlaces(Judge):
    """Puts to two places, which another hand sees the other way round."""

    def seen(self, text, wanted):
        self.judge(text, {(1, 0): (0, 1), (1, 1): None}, {"x": [(0, 0)], "y": [(0, 1)]}, wanted)

    def test_the_second_put_seen_without_the_first(self):
        self.seen("put x 1; put y 1 | get a y; get b x", BY_LOOSE)
        self.seen("put x 1; bar; put y 1 | get a y; get b x", BY_NONE)
        self.seen("put x 1; fence; put y 1 | get a y; get b x", BY_NONE)
        self.seen("put x 1; bar when a 1; put y 1 | get a y; get b x", BY_LOOSE)
        self.seen("bar; put x 1; put y 1; bar | get a y; bar; get b x", BY_LOOSE)

    def test_lines_crosswise(self):
        lines = {"x": [(1, 1), (0, 0)], "y": [(0, 1), (1, 0)]}
        self.judge("put x 1; put y 2 | put y 1; put x 2", {}, lines, BY_LOOSE)
        self.judge("put x 1; bar; put y 2 | put y 1; put x 2", {}, lines, BY_LOOSE)
        self.judge("put x 1; bar; put y 2 | put y 1; bar; put x 2", {}, lines, BY_NONE)
        self.judge("put x 1; fence; put y 2 | put y 1; bar; put x 2", {}, lines, BY_NONE)

    def test_two_readers_that_part(self):
        text = "put x 1 | put y 1 | get a x; get b y | get a y; get b x"
        froms = {(2, 0): (0, 0), (2, 1): None, (3, 0): (1, 0), (3, 1): None}
        self.judge(text, froms, {"x": [(0, 0)], "y": [(1, 0)]}, BY_NONE)

    def test_gets_ahead_of_puts(self):
        lines = {"x": [(1, 1)], "y": [(0, 1)]}
        text = "get a x; put y 1 | get b y; put x 1"
        self.judge(text, {(0, 0): (1, 1), (1, 0): (0, 1)}, lines, BY_NONE)
        self.judge(text, {(0, 0): (1, 1), (1, 0): None}, lines, BY_ALL)


class OnePlace(Judge):
    def test_own_puts_in_their_order(self):
        self.judge("put x 1; put x 2", {}, {"x": [(0, 0), (0, 1)]}, BY_ALL)
        self.judge("put x 1; put x 2", {}, {"x": [(0, 1), (0, 0)]}, BY_NONE)

    def test_a_get_behind_an_own_put(self):
        text = "put x 1; put x 2; get a x"
        line = {"x": [(0, 0), (0, 1)]}
        self.judge(text, {(0, 2): (0, 1)}, line, BY_ALL)
        self.judge(text, {(0, 2): (0, 0)}, line, BY_NONE)
        self.judge(text, {(0, 2): None}, line, BY_NONE)

    def test_a_get_of_a_later_put_of_its_own_hand(self):
        self.judge("get a x; put x 1", {(0, 0): (0, 1)}, {"x": [(0, 1)]}, BY_NONE)

    def test_a_get_of_another_hands_put(self):
        text = "put x 1; get a x | put x 2"
        self.judge(text, {(0, 1): (1, 0)}, {"x": [(0, 0), (1, 0)]}, BY_ALL)
        self.judge(text, {(0, 1): (1, 0)}, {"x": [(1, 0), (0, 0)]}, BY_NONE)
        self.judge(text, {(0, 1): (0, 0)}, {"x": [(1, 0), (0, 0)]}, BY_ALL)
        self.judge(text, {(0, 1): (0, 0)}, {"x": [(0, 0), (1, 0)]}, BY_ALL)

    def test_two_gets_that_go_backward(self):
        line = {"x": [(0, 0)]}
        self.judge("put x 1 | get a x; get b x", {(1, 0): None, (1, 1): (0, 0)}, line, BY_ALL)
        self.judge("put x 1 | get a x; get b x", {(1, 0): (0, 0), (1, 1): None}, line, BY_NONE)

    def test_two_swaps(self):
        text = "swap a x 1 | swap b x 2"
        line = {"x": [(0, 0), (1, 0)]}
        self.judge(text, {(0, 0): None, (1, 0): (0, 0)}, line, BY_ALL)
        self.judge(text, {(0, 0): None, (1, 0): None}, line, BY_NONE)
        self.judge(text, {(0, 0): (1, 0), (1, 0): (0, 0)}, line, BY_NONE)
        self.judge(text, {(0, 0): (1, 0), (1, 0): None}, line, BY_NONE)

    def test_a_swap_past_a_put(self):
        text = "put x 1 | swap b x 2"
        self.judge(text, {(1, 0): None}, {"x": [(1, 0), (0, 0)]}, BY_ALL)
        self.judge(text, {(1, 0): None}, {"x": [(0, 0), (1, 0)]}, BY_NONE)
        self.judge(text, {(1, 0): (0, 0)}, {"x": [(0, 0), (1, 0)]}, BY_ALL)
        self.judge(text, {(1, 0): (0, 0)}, {"x": [(1, 0), (0, 0)]}, BY_NONE)

    def test_a_swap_behind_an_own_put(self):
        self.judge("put x 1; swap a x 2", {(0, 1): (0, 0)}, {"x": [(0, 0), (0, 1)]}, BY_ALL)
        self.judge("put x 1; swap a x 2", {(0, 1): None}, {"x": [(0, 1), (0, 0)]}, BY_NONE)


class PassedOver(Judge):
    TEXT = "put x 1; get a y; put z 1 when a 1 | put y 1; get b x; put z 2 unless b 0"

    def test_by_what_is_read(self):
        lines = {"x": [(0, 0)], "y": [(1, 0)], "z": []}
        self.judge(self.TEXT, {(0, 1): None, (1, 1): None}, lines, BY_LATE)
        lines = {"x": [(0, 0)], "y": [(1, 0)], "z": [(1, 2), (0, 2)]}
        self.judge(self.TEXT, {(0, 1): (1, 0), (1, 1): (0, 0)}, lines, BY_ALL)

    def test_a_get_that_would_ask_for_itself(self):
        text = "get a x; put x 1 when a 1; put y 5 unless a 1 | get b y; put x 1 when b 5"
        self.judge(text, {(0, 0): (0, 1), (1, 0): None}, {"x": [(0, 1)], "y": []}, BY_NONE)
        self.judge(text, {(0, 0): None, (1, 0): (0, 2)}, {"x": [(1, 1)], "y": [(0, 2)]}, BY_ALL)

    def test_the_only_edges_that_are_there(self):
        # The put between would lead to a ring, were it done.
        text = "put x 1; put x 2 when b 1; get a x"
        self.judge(text, {(0, 2): (0, 0)}, {"x": [(0, 0)]}, BY_ALL)


class All(Judge):
    def test_without_points(self):
        for slack in SLACKS:
            with self.subTest(slack):
                self.assertEqual(judged([[], []], ([], []), slack), ("order", []))
                self.assertEqual(judged([[]], ([], []), slack), ("order", []))
                self.assertEqual(judged(read("fence; bar | fence"), ([], []), slack), ("order", []))
                passed = read("fence; put x 1 when a 1 | get a y unless a 0")
                self.assertEqual(judged(passed, ([], [("x", []), ("y", [])]), slack), ("order", []))

    def test_the_slack_left_out(self):
        program = read("put x 1; put y 1 | get a y; get b x")
        tale = tale_of({(1, 0): (0, 1), (1, 1): None}, {"x": [(0, 0)], "y": [(0, 1)]})
        self.assertEqual(self.told(program, tale), "order")
        self.assertEqual(judged(program, tale, slack=1)[0], "ring")

    def test_just_those_that_runs_have(self):
        for text in TEXTS:
            program = read(text)
            whole = whole_tales(program)
            for slack in SLACKS:
                with self.subTest(text=text, slack=slack):
                    ordered = [repr(tale) for tale in whole if self.told(program, tale, slack) == "order"]
                    self.assertEqual(sorted(ordered), sorted(ends_of(program, slack)))

    def test_an_order_by_greater_slacks(self):
        for text in TEXTS:
            program = read(text)
            for tale in whole_tales(program):
                for slack, greater in ((0, 1), (0, 2), (1, 2)):
                    answer = judged(program, tale, slack)
                    if answer[0] == "order":
                        with self.subTest(text=text, tale=tale, slack=slack, greater=greater):
                            self.assertTrue(keeps(answer[1], edges(program, tale, greater)))
                            self.assertEqual(judged(program, tale, greater)[0], "order")

    def test_six_hands_and_forty_deeds(self):
        for text in GREAT:
            program = read(text)
            for slack in SLACKS:
                for turn in range(5):
                    with self.subTest(text=text, slack=slack, turn=turn):
                        self.assertEqual(self.told(program, some_run(program, slack, turn)[1], slack), "order")

    def test_a_ring_through_six_hands(self):
        names = "uvwxyz"
        hands = [f"put {names[h]} 1; get a {names[(h + 1) % 6]}" for h in range(6)]
        froms = {(h, 1): None for h in range(6)}
        lines = {names[h]: [(h, 0)] for h in range(6)}
        self.judge(" | ".join(hands), froms, lines, BY_LATE)
        self.judge(" | ".join(hands).replace(";", "; fence;"), froms, lines, BY_NONE)
        self.judge(" | ".join(hands).replace(";", "; fence;", 5), froms, lines, BY_LATE)

    def test_refused_by_each_slack(self):
        program = read("put x 1; get a y | put y 1; get b x")
        froms = [((0, 1), None), ((1, 1), (0, 0))]
        lines = [("x", [(0, 0)]), ("y", [(1, 0)])]
        wrong = [
            ([], []),
            (froms[1:], lines),
            (froms[::-1], lines),
            (froms + froms[1:], lines),
            (froms, lines[:1]),
            (froms, lines[::-1]),
            (froms, lines + [("z", [])]),
            (froms, [("x", []), ("y", [(1, 0)])]),
            (froms, [("x", [(0, 0), (0, 0)]), ("y", [(1, 0)])]),
            (froms, [("x", [(1, 0)]), ("y", [(0, 0)])]),
            ([((0, 1), (0, 0)), ((1, 1), None)], lines),
            ([((0, 1), (0, 1)), ((1, 1), None)], lines),
            ([((0, 1), (-1, -1)), ((1, 1), None)], lines),
            ([((0, 1), None), ((1, 1), None), ((2, 0), None)], lines),
        ]
        for slack in SLACKS:
            for tale in wrong:
                with self.subTest(slack=slack, tale=tale):
                    kept = copy.deepcopy(tale)
                    with self.assertRaises(NoTale):
                        judged(program, tale, slack)
                    self.assertEqual(tale, kept)
            self.assertEqual(self.told(program, (froms, lines), slack), "order")

    def test_what_was_told_is_the_askers_own(self):
        program = read("put x 1; get a y | put y 1; get b x")
        tale = tale_of({(0, 1): None, (1, 1): None}, {"x": [(0, 0)], "y": [(1, 0)]})
        for slack in SLACKS:
            with self.subTest(slack):
                first = judged(program, tale, slack)
                kept = list(first[1])
                self.told(program, tale, slack)
                self.assertEqual(first[1], kept)
                first[1].clear()
                self.told(program, tale, slack)


if __name__ == "__main__":
    unittest.main()
