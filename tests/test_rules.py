import copy
import unittest

from latewrite.errors import NoTale
from latewrite.rules import edges
from latewrite.texts import read

from helping import SLACKS, tale_of


class Rules(unittest.TestCase):
    def told(self, program, tale, *slack):
        """The edges, once it is sure that they are as told and that all that was handed in stayed as it was."""
        kept = copy.deepcopy((program, tale))
        answer = edges(program, tale, *slack)
        self.assertEqual((program, tale), kept)
        self.assertIs(type(answer), list)
        self.assertEqual([type(edge) for edge in answer], [tuple] * len(answer))
        self.assertEqual(answer, sorted(set(answer)))
        return answer

    def of_word(self, word, text, froms, lines, slack):
        found = self.told(read(text), tale_of(froms, lines), slack)
        return [(one, other) for one, other, which in found if which == word]

    def hand(self, text, froms, lines, wanted):
        """wanted: by each slack, the pairs (k, k) of hand 0 with an edge `hand`."""
        for slack in SLACKS:
            with self.subTest(text=text, slack=slack):
                pairs = self.of_word("hand", text, froms, lines, slack)
                self.assertEqual([(one[1], other[1]) for one, other in pairs if one[0] == 0], wanted[slack])
                self.assertTrue(all(one[0] == other[0] for one, other in pairs))

    def alike(self, word, text, froms, lines, wanted):
        """By each slack the same edges of the word."""
        for slack in SLACKS:
            with self.subTest(text=text, slack=slack):
                self.assertEqual(self.of_word(word, text, froms, lines, slack), wanted)


class Hand(Rules):
    ALWAYS = [[(0, 1)]] * 3
    BUT_SLACK_NOUGHT = [[(0, 1)], [], []]

    def put_get(self, between, wanted, place="y"):
        lines = {"x": [(0, 0)]} if place == "x" else {"x": [(0, 0)], "y": []}
        self.hand("put x 1; " + between + "get a " + place, {(0, 1): None}, lines, wanted)

    def two_puts(self, text, wanted, place="y"):
        lines = {"x": [(0, 0), (0, 1)]} if place == "x" else {"x": [(0, 0)], "y": [(0, 1)]}
        self.hand(text, {}, lines, wanted)

    def test_a_put_ahead_of_a_get(self):
        self.put_get("", self.BUT_SLACK_NOUGHT)
        self.put_get("", self.BUT_SLACK_NOUGHT, "x")
        self.put_get("bar; ", self.BUT_SLACK_NOUGHT)
        self.put_get("bar; bar; ", self.BUT_SLACK_NOUGHT, "x")

    def test_a_put_ahead_of_a_get_with_a_fence_between(self):
        self.put_get("fence; ", self.ALWAYS)
        self.put_get("fence; ", self.ALWAYS, "x")
        self.put_get("bar; fence; fence; ", self.ALWAYS)
        self.put_get("fence unless c 1; ", self.ALWAYS)

    def test_a_fence_that_is_passed_over(self):
        self.put_get("fence when c 1; ", self.BUT_SLACK_NOUGHT)
        self.put_get("fence unless c 0; bar; ", self.BUT_SLACK_NOUGHT)

    def test_fences_that_do_not_stand_between(self):
        self.hand("fence; put x 1; get a y; fence", {(0, 1): None}, {"x": [(0, 0)], "y": []}, self.BUT_SLACK_NOUGHT)
        self.two_puts("fence; bar; put x 1; put y 1; fence; bar", [[(0, 1)], [(0, 1)], []])

    def test_fences_of_other_hands(self):
        text = "put x 1; get a y | put x 2; fence; bar; get a y"
        froms = {(0, 1): None, (1, 1): None}
        lines = {"x": [(0, 0), (1, 0)], "y": []}
        self.hand(text, froms, lines, self.BUT_SLACK_NOUGHT)
        self.assertEqual(self.of_word("hand", text, froms, lines, 1), [((1, 0), (1, 1))])

    def test_two_puts_to_unlike_places(self):
        self.two_puts("put x 1; put y 1", [[(0, 1)], [(0, 1)], []])
        self.two_puts("put x 1; fence; put y 1", self.ALWAYS)
        self.two_puts("put x 1; bar; put y 1", self.ALWAYS)
        self.two_puts("put x 1; bar when c 1; put y 1", [[(0, 1)], [(0, 1)], []])
        self.two_puts("put x 1; fence when c 1; put y 1", [[(0, 1)], [(0, 1)], []])
        self.two_puts("put x 1; bar unless c 1; put y 1", self.ALWAYS)

    def test_two_puts_to_one_place(self):
        self.two_puts("put x 1; put x 2", self.ALWAYS, "x")
        self.two_puts("put x 1; bar; put x 2", self.ALWAYS, "x")

    def test_a_get_ahead_of_another_deed(self):
        self.hand("get a x; put y 1", {(0, 0): None}, {"x": [], "y": [(0, 1)]}, self.ALWAYS)
        self.hand("get a x; put x 1", {(0, 0): None}, {"x": [(0, 1)]}, self.ALWAYS)
        self.hand("get a x; get a y", {(0, 0): None, (0, 1): None}, {"x": [], "y": []}, self.ALWAYS)
        self.hand("get a x; swap a y 1", {(0, 0): None, (0, 1): None}, {"x": [], "y": [(0, 1)]}, self.ALWAYS)

    def test_a_swap_beside_another_deed(self):
        self.hand("swap a x 1; put y 1", {(0, 0): None}, {"x": [(0, 0)], "y": [(0, 1)]}, self.ALWAYS)
        self.hand("swap a x 1; get a y", {(0, 0): None, (0, 1): None}, {"x": [(0, 0)], "y": []}, self.ALWAYS)
        self.hand("put x 1; swap a y 1", {(0, 1): None}, {"x": [(0, 0)], "y": [(0, 1)]}, self.ALWAYS)
        two = {"x": [(0, 0)], "y": [(0, 1)]}
        self.hand("swap a x 1; swap a y 1", {(0, 0): None, (0, 1): None}, two, self.ALWAYS)

    def test_a_swap_between_counts_for_no_fence(self):
        text = "put x 1; swap a y 1; get b z; put z 2"
        lines = {"x": [(0, 0)], "y": [(0, 1)], "z": [(0, 3)]}
        every = [(0, 1), (0, 2), (0, 3), (1, 2), (1, 3), (2, 3)]
        late = [(0, 1), (0, 3), (1, 2), (1, 3), (2, 3)]
        loose = [(0, 1), (1, 2), (1, 3), (2, 3)]
        self.hand(text, {(0, 1): None, (0, 2): None}, lines, [every, late, loose])

    def test_where_between_begins_and_ends(self):
        # The stop stands ahead of the point of its number, and behind the one ahead of that.
        text = "put x 1; put x 2; fence; get a y; put z 3; get a y"
        lines = {"x": [(0, 0), (0, 1)], "y": [], "z": [(0, 3)]}
        froms = {(0, 2): None, (0, 4): None}
        every = [(i, j) for i in range(5) for j in range(i + 1, 5)]
        late = [pair for pair in every if pair != (3, 4)]
        self.hand(text, froms, lines, [every, late, late])
        barred = text.replace("fence", "bar")
        late = [(0, 1), (0, 3), (1, 3), (2, 3), (2, 4)]
        self.hand(barred, froms, lines, [every, late, late])
        loose = [(0, 1), (2, 3), (2, 4)]
        self.hand(text.replace("fence; ", ""), froms, lines, [every, late, loose])

    def test_points_passed_over_have_no_edge_but_count(self):
        text = "put x 1; put x 2 when a 1; fence when a 1; bar; put y 3; get b x"
        self.hand(text, {(0, 3): (0, 0)}, {"x": [(0, 0)], "y": [(0, 2)]}, [
            [(0, 2), (0, 3), (2, 3)], [(0, 2)], [(0, 2)],
        ])

    def test_points_of_unlike_hands_have_none(self):
        for slack in SLACKS:
            with self.subTest(slack):
                lines = {"x": [(0, 0), (1, 0)]}
                found = self.of_word("hand", "put x 1 | put x 2 | get a x", {(2, 0): None}, lines, slack)
                self.assertEqual(found, [])


class From(Rules):
    def test_of_another_hand(self):
        self.alike("from", "put x 1 | get a x", {(1, 0): (0, 0)}, {"x": [(0, 0)]}, [((0, 0), (1, 0))])
        self.alike("from", "swap a x 1 | get a x", {(0, 0): None, (1, 0): (0, 0)}, {"x": [(0, 0)]}, [((0, 0), (1, 0))])
        self.alike("from", "put x 1 | swap a x 2", {(1, 0): (0, 0)}, {"x": [(0, 0), (1, 0)]}, [((0, 0), (1, 0))])
        # Numbers of hands and deeds that look as if the source were ahead.
        text = "get a x; get b x; get c x | put x 1"
        froms = {(0, 0): None, (0, 1): (1, 0), (0, 2): (1, 0)}
        self.alike("from", text, froms, {"x": [(1, 0)]}, [((1, 0), (0, 1)), ((1, 0), (0, 2))])

    def test_none(self):
        self.alike("from", "put x 1 | get a x; swap b x 2", {(1, 0): None, (1, 1): None}, {"x": [(0, 0), (1, 1)]}, [])

    def test_a_get_whose_source_is_of_its_own_hand_ahead_of_it(self):
        self.alike("from", "put x 1; get a x", {(0, 1): (0, 0)}, {"x": [(0, 0)]}, [])
        self.alike("from", "put x 1; fence; get a x", {(0, 1): (0, 0)}, {"x": [(0, 0)]}, [])
        self.alike("from", "swap b x 1; get a x", {(0, 0): None, (0, 1): (0, 0)}, {"x": [(0, 0)]}, [])

    def test_a_get_whose_source_is_of_its_own_hand_behind_it(self):
        self.alike("from", "get a x; put x 1", {(0, 0): (0, 1)}, {"x": [(0, 1)]}, [((0, 1), (0, 0))])

    def test_a_swap_whose_source_is_of_its_own_hand(self):
        self.alike("from", "put x 1; swap a x 2", {(0, 1): (0, 0)}, {"x": [(0, 0), (0, 1)]}, [((0, 0), (0, 1))])
        self.alike("from", "swap a x 2; put x 1", {(0, 0): (0, 1)}, {"x": [(0, 0), (0, 1)]}, [((0, 1), (0, 0))])


class Line(Rules):
    def test_all_pairs_of_a_line(self):
        text = "put x 1; put y 2 | put x 3 | swap a x 4"
        lines = {"x": [(2, 0), (0, 0), (1, 0)], "y": [(0, 1)]}
        wanted = [((0, 0), (1, 0)), ((2, 0), (0, 0)), ((2, 0), (1, 0))]
        self.alike("line", text, {(2, 0): None}, lines, wanted)

    def test_against_the_hand(self):
        self.alike("line", "put x 1; put x 2", {}, {"x": [(0, 1), (0, 0)]}, [((0, 1), (0, 0))])

    def test_lines_of_unlike_places_have_none(self):
        self.alike("line", "put x 1 | put y 2 | get a z", {(2, 0): None}, {"x": [(0, 0)], "y": [(1, 0)], "z": []}, [])


class Ahead(Rules):
    TEXT = "put x 1 | put x 2 | put x 3 | get a x"
    LINE = {"x": [(1, 0), (0, 0), (2, 0)]}

    def test_a_get_ahead_of_all_behind_its_source(self):
        get = (3, 0)
        self.alike("ahead", self.TEXT, {get: (1, 0)}, self.LINE, [(get, (0, 0)), (get, (2, 0))])
        self.alike("ahead", self.TEXT, {get: (0, 0)}, self.LINE, [(get, (2, 0))])
        self.alike("ahead", self.TEXT, {get: (2, 0)}, self.LINE, [])

    def test_a_source_of_none(self):
        get = (3, 0)
        self.alike("ahead", self.TEXT, {get: None}, self.LINE, [(get, (0, 0)), (get, (1, 0)), (get, (2, 0))])
        self.alike("ahead", "get a x", {(0, 0): None}, {"x": []}, [])

    def test_a_swap_but_not_ahead_of_itself(self):
        text = "put x 1 | swap a x 2 | put x 3"
        line = {"x": [(0, 0), (1, 0), (2, 0)]}
        self.alike("ahead", text, {(1, 0): (0, 0)}, line, [((1, 0), (2, 0))])
        self.alike("ahead", text, {(1, 0): None}, line, [((1, 0), (0, 0)), ((1, 0), (2, 0))])
        self.alike("ahead", text, {(1, 0): (2, 0)}, line, [])
        line = {"x": [(1, 0), (0, 0), (2, 0)]}
        self.alike("ahead", text, {(1, 0): (0, 0)}, line, [((1, 0), (2, 0))])
        self.alike("ahead", "swap a x 1", {(0, 0): None}, {"x": [(0, 0)]}, [])

    def test_points_of_its_own_hand(self):
        wanted = [((0, 1), (0, 0)), ((0, 1), (0, 2))]
        self.alike("ahead", "put x 1; get a x; put x 2", {(0, 1): None}, {"x": [(0, 0), (0, 2)]}, wanted)

    def test_lines_of_other_places_do_not_count(self):
        self.alike("ahead", "get a x | put y 1", {(0, 0): None}, {"x": [], "y": [(1, 0)]}, [])


class Own(Rules):
    def test_with_and_without_the_source_being_that_one(self):
        text = "put x 1; get a x | put x 2"
        line = {"x": [(0, 0), (1, 0)]}
        self.alike("own", text, {(0, 1): (0, 0)}, line, [])
        self.alike("own", text, {(0, 1): (1, 0)}, line, [((0, 0), (0, 1))])
        self.alike("own", text, {(0, 1): None}, line, [((0, 0), (0, 1))])

    def test_the_last_alone(self):
        text = "put x 1; put x 2; put y 3; get a x; put x 4"
        lines = {"x": [(0, 0), (0, 1), (0, 4)], "y": [(0, 2)]}
        self.alike("own", text, {(0, 3): (0, 0)}, lines, [((0, 1), (0, 3))])
        self.alike("own", text, {(0, 3): (0, 4)}, lines, [((0, 1), (0, 3))])
        self.alike("own", text, {(0, 3): (0, 1)}, lines, [])

    def test_a_swap_as_that_one(self):
        text = "put x 1; swap b x 2; get a x"
        line = {"x": [(0, 0), (0, 1)]}
        self.alike("own", text, {(0, 1): (0, 0), (0, 2): (0, 0)}, line, [((0, 1), (0, 2))])
        self.alike("own", text, {(0, 1): (0, 0), (0, 2): (0, 1)}, line, [])

    def test_none_for_a_swap(self):
        self.alike("own", "put x 1; swap a x 2", {(0, 1): None}, {"x": [(0, 0), (0, 1)]}, [])

    def test_none_where_its_hand_has_none_ahead(self):
        text = "get a x; put x 1 | put x 2"
        self.alike("own", text, {(0, 0): (1, 0)}, {"x": [(0, 1), (1, 0)]}, [])
        self.alike("own", "put y 1; get a x", {(0, 1): None}, {"x": [], "y": [(0, 0)]}, [])
        self.alike("own", "put y 1; get b x; get a x", {(0, 1): None, (0, 2): None}, {"x": [], "y": [(0, 0)]}, [])

    def test_one_that_is_passed_over_does_not_count(self):
        text = "put x 1; put x 2 when b 1; get a x | put x 3"
        line = {"x": [(0, 0), (1, 0)]}
        self.alike("own", text, {(0, 2): (1, 0)}, line, [((0, 0), (0, 2))])
        self.alike("own", text, {(0, 2): (0, 0)}, line, [])


class All(Rules):
    TEXT = "put x 1; put y 2; get a y; get b x | put x 3; bar; put y 4; get a x; swap b y 5"
    TALE = tale_of(
        {(0, 2): (0, 1), (0, 3): (1, 0), (1, 2): None, (1, 3): (0, 1)},
        {"x": [(1, 0), (0, 0)], "y": [(1, 1), (0, 1), (1, 3)]},
    )
    ALWAYS = [
        ((0, 0), (0, 3), "own"),
        ((0, 1), (1, 3), "from"),
        ((0, 1), (1, 3), "line"),
        ((0, 2), (0, 3), "hand"),
        ((0, 2), (1, 3), "ahead"),
        ((0, 3), (0, 0), "ahead"),
        ((1, 0), (0, 0), "line"),
        ((1, 0), (0, 3), "from"),
        ((1, 0), (1, 1), "hand"),
        ((1, 0), (1, 2), "own"),
        ((1, 0), (1, 3), "hand"),
        ((1, 1), (0, 1), "line"),
        ((1, 1), (1, 3), "hand"),
        ((1, 1), (1, 3), "line"),
        ((1, 2), (0, 0), "ahead"),
        ((1, 2), (1, 0), "ahead"),
        ((1, 2), (1, 3), "hand"),
    ]
    IN_ORDER = [((0, 0), (0, 1), "hand")]
    AT_ONCE = [
        ((0, 0), (0, 2), "hand"), ((0, 0), (0, 3), "hand"), ((0, 1), (0, 2), "hand"), ((0, 1), (0, 3), "hand"),
        ((1, 0), (1, 2), "hand"), ((1, 1), (1, 2), "hand"),
    ]

    def test_by_each_slack_sorted(self):
        program = read(self.TEXT)
        self.assertEqual(self.told(program, self.TALE, 2), self.ALWAYS)
        self.assertEqual(self.told(program, self.TALE, 1), sorted(self.ALWAYS + self.IN_ORDER))
        self.assertEqual(self.told(program, self.TALE, 0), sorted(self.ALWAYS + self.IN_ORDER + self.AT_ONCE))

    def test_the_slack_left_out(self):
        program = read(self.TEXT)
        self.assertEqual(self.told(program, self.TALE), self.ALWAYS)
        self.assertEqual(edges(program, self.TALE, slack=1), self.told(program, self.TALE, 1))

    def test_sorted_by_numbers(self):
        program = read("; ".join(["put x 1"] * 12))
        line = [(0, k) for k in range(12)]
        pairs = [(one, other) for one in line for other in line if one < other]
        wanted = [pair + (word,) for pair in pairs for word in ("hand", "line")]
        for slack in SLACKS:
            with self.subTest(slack):
                self.assertEqual(self.told(program, ([], [("x", line)]), slack), wanted)

    def test_without_points(self):
        for slack in SLACKS:
            with self.subTest(slack):
                self.assertEqual(self.told([[], []], ([], []), slack), [])
                self.assertEqual(self.told(read("fence; put x 1 when a 1"), ([], [("x", [])]), slack), [])

    def test_refused_by_each_slack(self):
        program = read(self.TEXT)
        froms, lines = self.TALE
        for slack in SLACKS:
            for tale in ((froms[1:], lines), (froms, lines[1:]), (froms, lines[::-1]), ([], [])):
                with self.subTest(slack=slack, tale=tale):
                    with self.assertRaises(NoTale):
                        edges(program, tale, slack)
            self.assertEqual(edges(program, self.TALE, 2), self.ALWAYS)

    def test_forty_points(self):
        program = read(" | ".join(["; ".join(["put x 1; get a x"] * 10)] * 2))
        line = [(h, k) for k in range(0, 20, 2) for h in (0, 1)]
        tale = ([((h, k + 1), (h, k)) for h in (0, 1) for k in range(0, 20, 2)], [("x", line)])
        for slack in SLACKS:
            with self.subTest(slack):
                words = [edge[2] for edge in self.told(program, tale, slack)]
                self.assertEqual(words.count("line"), 190)
                self.assertEqual(words.count("hand"), 2 * (190 if slack == 0 else 190 - 55))
                self.assertEqual(words.count("ahead"), 190)
                self.assertEqual(len(words), 380 + words.count("hand"))


if __name__ == "__main__":
    unittest.main()
