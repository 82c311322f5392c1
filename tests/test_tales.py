import copy
import random
import unittest

from latewrite.errors import NoTale
from latewrite.machines import machine
from latewrite.rules import edges
from latewrite.tales import outcome_of, points_of, stops_of
from latewrite.texts import read

# (0,0) put x, (0,1) get a, (0,2) put y where a is 7, (0,3) swap b on x | (1,0) put y, (1,1) get a, (1,2) get c
TEXT = "put x 1; fence; get a y; put y 2 when a 7; bar; swap b x 3 | put y 7; get a x unless d 0; get c y"
# Hand 0 reads 0, so its put to y is passed over; and (1,1) always is.
PASSED = (
    [((0, 1), None), ((0, 3), (0, 0)), ((1, 2), (1, 0))],
    [("x", [(0, 0), (0, 3)]), ("y", [(1, 0)])],
)
# Hand 0 reads 7, so its put to y is done.
TAKEN = (
    [((0, 1), (1, 0)), ((0, 3), None), ((1, 2), (0, 2))],
    [("x", [(0, 3), (0, 0)]), ("y", [(1, 0), (0, 2)])],
)
ASKED = (points_of, stops_of, outcome_of, edges)


class Tales(unittest.TestCase):
    def setUp(self):
        self.program = read(TEXT)

    def told(self, function, program, tale):
        """The answer, once it is sure that all that was handed in stayed as it was."""
        kept = copy.deepcopy((program, tale))
        answer = function(program, tale)
        self.assertEqual((program, tale), kept)
        return answer

    def is_whole(self, tale, program=None):
        for function in ASKED:
            with self.subTest(tale=tale, function=function.__name__):
                self.told(function, self.program if program is None else program, tale)

    def refused(self, tale, program=None):
        """NoTale by each of the four, with all as ahead; and a whole tale right behind it is told as ever."""
        asked = self.program if program is None else program
        kept = copy.deepcopy((asked, tale))
        for function in ASKED:
            with self.subTest(tale=tale, function=function.__name__):
                with self.assertRaises(NoTale):
                    function(asked, tale)
                self.assertEqual((asked, tale), kept)
        self.assertEqual(points_of(self.program, PASSED), [(0, 0), (0, 1), (0, 3), (1, 0), (1, 2)])


class Whole(Tales):
    def test_points(self):
        self.assertEqual(self.told(points_of, self.program, PASSED), [(0, 0), (0, 1), (0, 3), (1, 0), (1, 2)])
        wanted = [(0, 0), (0, 1), (0, 2), (0, 3), (1, 0), (1, 2)]
        self.assertEqual(self.told(points_of, self.program, TAKEN), wanted)

    def test_outcomes(self):
        cups = ((("a", 0), ("b", 1)), (("a", 0), ("c", 7), ("d", 0)))
        self.assertEqual(self.told(outcome_of, self.program, PASSED), (cups, (("x", 3), ("y", 7))))
        cups = ((("a", 7), ("b", 0)), (("a", 0), ("c", 2), ("d", 0)))
        self.assertEqual(self.told(outcome_of, self.program, TAKEN), (cups, (("x", 1), ("y", 2))))

    def test_without_deeds(self):
        program = [[], []]
        tale = ([], [])
        self.assertEqual(self.told(points_of, program, tale), [])
        self.assertEqual(self.told(stops_of, program, tale), [])
        self.assertEqual(self.told(outcome_of, program, tale), (((), ()), ()))
        self.assertEqual(self.told(edges, program, tale), [])

    def test_all_passed_over(self):
        program = read("get a x when b 1; put y 2 unless c 0; fence when c 1 | idle")
        tale = ([], [("x", []), ("y", [])])
        self.assertEqual(self.told(points_of, program, tale), [])
        self.assertEqual(self.told(stops_of, program, tale), [])
        cups = ((("a", 0), ("b", 0), ("c", 0)), ())
        self.assertEqual(self.told(outcome_of, program, tale), (cups, (("x", 0), ("y", 0))))

    def test_lines_in_any_order(self):
        program = read("put x 1; put x 2; put x 3")
        for line in ([0, 1, 2], [0, 2, 1], [1, 0, 2], [1, 2, 0], [2, 0, 1], [2, 1, 0]):
            with self.subTest(line):
                tale = ([], [("x", [(0, k) for k in line])])
                self.assertEqual(self.told(points_of, program, tale), [(0, 0), (0, 1), (0, 2)])
                self.assertEqual(self.told(outcome_of, program, tale), (((),), (("x", line[-1] + 1),)))

    def test_sources_that_no_run_has(self):
        # Of its own hand and behind it; of a swap and not next ahead of it in the line.
        program = read("get a x; put x 1 | swap b x 2; put x 3")
        for first in (None, (0, 1), (1, 0), (1, 1)):
            for second in (None, (0, 1), (1, 1)):
                for line in ([(0, 1), (1, 0), (1, 1)], [(1, 1), (1, 0), (0, 1)]):
                    tale = ([((0, 0), first), ((1, 0), second)], [("x", line)])
                    self.is_whole(tale, program)
                    numbers = {None: 0, (0, 1): 1, (1, 0): 2, (1, 1): 3}
                    cups = ((("a", numbers[first]),), (("b", numbers[second]),))
                    self.assertEqual(outcome_of(program, tale), (cups, (("x", numbers[line[-1]]),)))

    def test_two_swaps_that_read_one_another(self):
        program = read("swap a x 1 | swap a x 2")
        tale = ([((0, 0), (1, 0)), ((1, 0), (0, 0))], [("x", [(0, 0), (1, 0)])])
        self.is_whole(tale, program)
        self.assertEqual(outcome_of(program, tale), (((("a", 2),), (("a", 1),)), (("x", 2),)))

    def test_a_guard_behind_each_reading(self):
        program = read("get a x; put y 1 when a 5; get a x; put y 2 when a 5; put y 3 unless a 5 | put x 5")
        for first, second, done in (
            (None, None, [4]), (None, (1, 0), [3]), ((1, 0), None, [1, 4]), ((1, 0), (1, 0), [1, 3]),
        ):
            with self.subTest(first=first, second=second):
                line = [(0, k) for k in done]
                tale = ([((0, 0), first), ((0, 2), second)], [("x", [(1, 0)]), ("y", line)])
                self.assertEqual(self.told(points_of, program, tale), sorted([(0, 0), (0, 2), (1, 0)] + line))

    def test_the_tale_of_each_run(self):
        chance = random.Random(15)
        texts = (TEXT, "put x 1; get a y | put y 2; swap b x 3 when c 0; get c x | get a x; put y 4 when a 3")
        for text in texts:
            for slack in (0, 1, 2):
                for turn in range(20):
                    one = machine(read(text), slack)
                    while not one.ended():
                        one.do(chance.choice(one.moves()))
                    self.assertEqual(self.told(outcome_of, read(text), one.tale()), one.outcome())

    def test_empty_lines_and_cups_never_filled(self):
        program = read("get a x; swap b y 1 when a 1; put z 2 unless c 0 | get b y when d 0")
        tale = ([((0, 0), None), ((1, 0), None)], [("x", []), ("y", []), ("z", [])])
        cups = ((("a", 0), ("b", 0), ("c", 0)), (("b", 0), ("d", 0)))
        self.assertEqual(self.told(outcome_of, program, tale), (cups, (("x", 0), ("y", 0), ("z", 0))))

    def test_numbers_of_sixty_figures(self):
        great = "9" * 60
        program = read("put x " + great + "; swap a x -" + great + " | get a x; put y 1 when a -" + great)
        tale = ([((0, 1), (0, 0)), ((1, 0), (0, 1))], [("x", [(0, 0), (0, 1)]), ("y", [(1, 1)])])
        number = int(great)
        cups = ((("a", number),), (("a", -number),))
        self.assertEqual(self.told(outcome_of, program, tale), (cups, (("x", -number), ("y", 1))))

    def test_forty_points(self):
        program = read(" | ".join(["; ".join(["put x 1; get a x"] * 10)] * 2))
        points = [(h, k) for h in (0, 1) for k in range(20)]
        froms = [((h, k), (1 - h, k - 1)) for h, k in points if k % 2 == 1]
        tale = (froms, [("x", [point for point in reversed(points) if point[1] % 2 == 0])])
        self.assertEqual(self.told(points_of, program, tale), points)
        self.assertEqual(outcome_of(program, tale), (((("a", 1),), (("a", 1),)), (("x", 1),)))


class Readers(Tales):
    def froms(self, *pairs):
        return (list(pairs), PASSED[1])

    def test_left_out(self):
        first, second, third = PASSED[0]
        self.refused(self.froms(second, third))
        self.refused(self.froms(first, third))
        self.refused(self.froms(first, second))
        self.refused(self.froms())

    def test_more(self):
        first, second, third = PASSED[0]
        self.refused(self.froms(((0, 0), None), first, second, third))
        self.refused(self.froms(first, ((0, 2), None), second, third))
        self.refused(self.froms(first, second, third, ((1, 3), None)))
        self.refused(self.froms(first, second, third, ((2, 0), None)))
        self.refused(self.froms(first, second, ((1, 0), None), third))

    def test_one_passed_over(self):
        first, second, third = PASSED[0]
        self.refused(self.froms(first, second, ((1, 1), None), third))
        self.refused(self.froms(first, second, ((1, 1), (0, 0)), third))

    def test_below_nought(self):
        first, second, third = PASSED[0]
        self.refused(self.froms(((-1, 0), None), first, second, third))
        self.refused(self.froms(((0, -1), None), first, second, third))
        self.refused(self.froms(((-2, 1), None), second, third))
        self.refused(self.froms(first, second, third, ((-1, 2), (1, 0))))

    def test_twice(self):
        first, second, third = PASSED[0]
        self.refused(self.froms(first, first, second, third))
        self.refused(self.froms(first, second, third, third))
        self.refused(self.froms(first, second, third, ((1, 2), None)))
        self.refused(self.froms(first, second, ((1, 2), None), third))
        self.refused(self.froms(first, ((0, 1), (1, 0)), second, third))

    def test_out_of_order(self):
        first, second, third = PASSED[0]
        self.refused(self.froms(second, first, third))
        self.refused(self.froms(first, third, second))
        self.refused(self.froms(third, first, second))

    def test_passed_over_by_what_is_read(self):
        # With 7 read, the put to y is done; with 0 read, it isn't.
        self.refused((TAKEN[0], PASSED[1]))
        self.refused((PASSED[0], TAKEN[1]))


class Sources(Tales):
    def with_source(self, tale, at, source):
        froms = list(tale[0])
        froms[at] = (froms[at][0], source)
        return (froms, tale[1])

    def test_writes_nothing(self):
        self.refused(self.with_source(PASSED, 2, (0, 1)))
        self.refused(self.with_source(PASSED, 2, (1, 1)))
        # The reader itself, a get.
        self.refused(self.with_source(PASSED, 2, (1, 2)))
        self.refused(self.with_source(PASSED, 0, (0, 1)))

    def test_of_another_place(self):
        self.refused(self.with_source(PASSED, 0, (0, 0)))
        self.refused(self.with_source(PASSED, 1, (1, 0)))
        self.refused(self.with_source(PASSED, 2, (0, 0)))
        self.refused(self.with_source(PASSED, 2, (0, 3)))
        self.refused(self.with_source(TAKEN, 1, (0, 2)))

    def test_passed_over(self):
        self.refused(self.with_source(PASSED, 2, (0, 2)))
        self.refused(self.with_source(PASSED, 0, (0, 2)))

    def test_passed_over_by_its_own_number(self):
        # Were the put done, the get ahead of it would read its 1; but then the guard doesn't hold.
        program = read("get a x; put x 1 when a 0")
        self.refused(([((0, 0), (0, 1))], [("x", [(0, 1)])]), program)
        self.refused(([((0, 0), (0, 1))], [("x", [])]), program)
        self.is_whole(([((0, 0), None)], [("x", [(0, 1)])]), program)

    def test_done_by_its_own_number(self):
        # No run has it, but it is whole: a put that is done since its own number was read.
        program = read("get a x; put x 1 when a 1")
        self.is_whole(([((0, 0), (0, 1))], [("x", [(0, 1)])]), program)
        self.is_whole(([((0, 0), None)], [("x", [])]), program)

    def test_not_there(self):
        for source in ((0, 4), (1, 3), (2, 0), (99, 99), (-1, 0), (0, -1), (-2, 0), (1, -3), (-1, -3), (-2, -4)):
            for at in (0, 1, 2):
                self.refused(self.with_source(PASSED, at, source))

    def test_the_swap_itself(self):
        self.refused(self.with_source(PASSED, 1, (0, 3)))
        self.refused(self.with_source(TAKEN, 1, (0, 3)))
        self.refused(([((0, 0), (0, 0))], [("x", [(0, 0)])]), read("swap a x 0"))

    def test_of_the_right_number_but_another_place(self):
        program = read("put x 1; put y 1; get a x")
        self.is_whole(([((0, 2), (0, 0))], [("x", [(0, 0)]), ("y", [(0, 1)])]), program)
        self.refused(([((0, 2), (0, 1))], [("x", [(0, 0)]), ("y", [(0, 1)])]), program)


class Lines(Tales):
    def lines(self, *pairs):
        return (PASSED[0], list(pairs))

    def test_a_place_left_out(self):
        first, second = PASSED[1]
        self.refused(self.lines(first))
        self.refused(self.lines(second))
        self.refused(self.lines())

    def test_a_place_left_out_whose_line_is_empty(self):
        program = read("get a x; put y 1 when a 1")
        self.is_whole(([((0, 0), None)], [("x", []), ("y", [])]), program)
        self.refused(([((0, 0), None)], [("x", [])]), program)
        self.refused(([((0, 0), None)], [("y", [])]), program)
        self.refused(([((0, 0), None)], []), program)

    def test_a_place_more(self):
        first, second = PASSED[1]
        self.refused(self.lines(first, second, ("z", [])))
        self.refused(self.lines(("a", []), first, second))
        self.refused(self.lines(first, ("xx", []), second))
        self.refused(self.lines(first, second, ("z", [(1, 0)])))

    def test_a_place_twice(self):
        first, second = PASSED[1]
        self.refused(self.lines(first, first, second))
        self.refused(self.lines(first, second, second))
        self.refused(self.lines(first, ("x", []), second))

    def test_places_out_of_order(self):
        first, second = PASSED[1]
        self.refused(self.lines(second, first))

    def test_places_by_other_names(self):
        first, second = PASSED[1]
        self.refused(self.lines(("w", first[1]), second))
        self.refused(self.lines(first, ("z", second[1])))

    def test_a_point_left_out(self):
        first, second = PASSED[1]
        self.refused(self.lines(("x", [(0, 0)]), second))
        self.refused(self.lines(("x", [(0, 3)]), second))
        self.refused(self.lines(("x", []), second))
        self.refused(self.lines(first, ("y", [])))

    def test_a_point_twice(self):
        first, second = PASSED[1]
        self.refused(self.lines(("x", [(0, 0), (0, 0), (0, 3)]), second))
        self.refused(self.lines(("x", [(0, 0), (0, 3), (0, 0)]), second))
        self.refused(self.lines(("x", [(0, 0), (0, 0)]), second))
        self.refused(self.lines(first, ("y", [(1, 0), (1, 0)])))

    def test_a_point_more(self):
        first, second = PASSED[1]
        # A get, one passed over, one of another place, some that aren't there.
        for point in ((0, 1), (0, 2), (1, 0), (1, 1), (1, 2), (0, 4), (2, 0), (-1, 0), (0, -1), (-2, 3), (-2, 0)):
            self.refused(self.lines(("x", first[1] + [point]), second))
            self.refused(self.lines(("x", [point] + first[1]), second))
        for point in ((0, 0), (0, 1), (0, 2), (0, 3), (1, 1), (1, 2), (2, 0), (-1, 0), (1, -3)):
            self.refused(self.lines(first, ("y", second[1] + [point])))
            self.refused(self.lines(first, ("y", [point] + second[1])))

    def test_a_point_in_the_place_of_another(self):
        first, second = PASSED[1]
        for point in ((0, 1), (0, 2), (1, 0), (0, 4), (-2, 0), (0, -4)):
            self.refused(self.lines(("x", [point, (0, 3)]), second))
        for point in ((0, 2), (1, 2), (-1, 0), (1, -3)):
            self.refused(self.lines(first, ("y", [point])))

    def test_points_of_two_lines_changed_about(self):
        self.refused(self.lines(("x", [(1, 0)]), ("y", [(0, 0), (0, 3)])))
        self.refused(self.lines(("x", [(0, 0), (1, 0)]), ("y", [(0, 3)])))


class Stops(Tales):
    def test_of_both_kinds(self):
        self.assertEqual(self.told(stops_of, self.program, PASSED), [(0, 1, "fence"), (0, 3, "bar")])
        self.assertEqual(self.told(stops_of, self.program, TAKEN), [(0, 1, "fence"), (0, 3, "bar")])

    def test_alike_ones_as_often_as_they_are_done(self):
        program = read("fence; bar; fence; put x 1; bar; bar; bar when a 1; fence | idle | bar; bar")
        wanted = [
            (0, 0, "bar"), (0, 0, "fence"), (0, 0, "fence"),
            (0, 1, "bar"), (0, 1, "bar"), (0, 1, "fence"),
            (2, 0, "bar"), (2, 0, "bar"),
        ]
        self.assertEqual(self.told(stops_of, program, ([], [("x", [(0, 0)])])), wanted)

    def test_passed_over_ones_are_left_out_and_passed_over_points_count(self):
        stops = "fence when a 0; bar unless a 0; bar when a 2"
        program = read("put x 1 when a 1; fence; get a y; " + stops + "; put x 2 | put y 2")
        tale = ([((0, 1), None)], [("x", [(0, 2)]), ("y", [(1, 0)])])
        self.assertEqual(self.told(stops_of, program, tale), [(0, 1, "fence"), (0, 2, "fence")])
        tale = ([((0, 1), (1, 0))], [("x", [(0, 2)]), ("y", [(1, 0)])])
        self.assertEqual(self.told(stops_of, program, tale), [(0, 1, "fence"), (0, 2, "bar"), (0, 2, "bar")])

    def test_more_than_nine_stand_by_number(self):
        program = read("; ".join(["put x 1; bar"] * 12))
        tale = ([], [("x", [(0, k) for k in range(12)])])
        self.assertEqual(self.told(stops_of, program, tale), [(0, k, "bar") for k in range(1, 13)])

    def test_of_stops_alone(self):
        program = read("bar; fence | fence unless a 0")
        self.assertEqual(self.told(stops_of, program, ([], [])), [(0, 0, "bar"), (0, 0, "fence")])


class OwnLists(Tales):
    def test_lists_are_new_each_time(self):
        for function in (points_of, stops_of, edges):
            with self.subTest(function.__name__):
                first = self.told(function, self.program, PASSED)
                self.assertIs(type(first), list)
                kept = list(first)
                first.reverse()
                first.append("more")
                second = self.told(function, self.program, PASSED)
                self.assertEqual(second, kept)
                second.clear()
                self.assertEqual(self.told(function, self.program, PASSED), kept)

    def test_kinds(self):
        for part in points_of(self.program, PASSED) + stops_of(self.program, PASSED):
            self.assertIs(type(part), tuple)
        outcome = outcome_of(self.program, PASSED)
        self.assertEqual([type(part) for part in (outcome,) + outcome + outcome[0]], [tuple] * 5)

    def test_a_tale_changed_later_counts_in_the_next_call_alone(self):
        program = read("put x 1; put x 2")
        line = [(0, 0), (0, 1)]
        tale = ([], [("x", line)])
        points = points_of(program, tale)
        outcome = outcome_of(program, tale)
        line.reverse()
        self.assertEqual(points, [(0, 0), (0, 1)])
        self.assertEqual(outcome, (((),), (("x", 2),)))
        self.assertEqual(outcome_of(program, tale), (((),), (("x", 1),)))
        program[0].append(("fence", None))
        self.assertEqual(stops_of(program, tale), [(0, 2, "fence")])
        line.pop()
        self.refused(tale, program)


if __name__ == "__main__":
    unittest.main()
