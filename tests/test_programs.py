import copy
import unittest

from latewrite.programs import cups, deed_at, is_small, places, points

PUT = ("put", "x", 1, None)
GET = ("get", "a", "x", None)
SWAP = ("swap", "b", "y", -7, ("unless", "b", 3))
FENCE = ("fence", None)
BAR = ("bar", None)

MIXED = [
    [FENCE, PUT, BAR, FENCE, GET, FENCE],
    [],
    [BAR, ("fence", ("when", "c", 1))],
    [SWAP, PUT, ("bar", ("unless", "d", 0)), ("put", "z", 12, ("when", "e", 0))],
    [("get", "x", "x", None)],
]
MIXED_POINTS = [(0, 0), (0, 1), (3, 0), (3, 1), (3, 2), (4, 0)]
EMPTY = [[]]


class Programs(unittest.TestCase):
    def told(self, function, *given):
        """The answer, once it is sure that all that was handed in stayed as it was."""
        kept = copy.deepcopy(given)
        answer = function(*given)
        self.assertEqual(given, kept)
        return answer

    def own(self, wanted, function, *given):
        """Sees that the list that is told is a new one each time, and the asker's own."""
        first = self.told(function, *given)
        self.assertIsInstance(first, list)
        self.assertEqual(first, wanted)
        kept = copy.deepcopy(given)
        first.append("more")
        first.reverse()
        second = self.told(function, *given)
        self.assertEqual(second, wanted)
        second.clear()
        self.assertEqual(self.told(function, *given), wanted)
        self.assertEqual(given, kept)


class Points(Programs):
    def test_hand_by_hand_then_by_number_without_fences_and_bars(self):
        self.own(MIXED_POINTS, points, MIXED)

    def test_each_is_a_tuple(self):
        self.assertTrue(all(type(point) is tuple for point in points(MIXED)))

    def test_hands_without_deeds(self):
        self.own([], points, EMPTY)
        self.own([], points, [[], [], [], [], [], []])
        self.own([(1, 0)], points, [[], [PUT], []])

    def test_hands_of_fences_and_bars_alone(self):
        self.own([], points, [[FENCE, BAR], [BAR]])

    def test_stops_put_in_change_no_point(self):
        bare = [[PUT, GET, SWAP], [GET, PUT]]
        stopped = [[BAR, PUT, FENCE, GET, BAR, BAR, SWAP], [GET, FENCE, PUT, FENCE]]
        self.assertEqual(points(stopped), points(bare))
        for point in points(bare):
            with self.subTest(point):
                self.assertEqual(deed_at(stopped, point), deed_at(bare, point))

    def test_guards_do_not_count(self):
        hand = [("put", "x", 1, ("when", "a", 9)), ("get", "a", "x", ("unless", "a", 0)), SWAP]
        self.own([(0, 0), (0, 1), (0, 2)], points, [hand])

    def test_more_than_nine_points_stand_by_number(self):
        self.own([(h, k) for h in range(6) for k in range(13)], points, [[PUT] * 13 for h in range(6)])

    def test_program_changed_later_counts_in_the_next_call(self):
        program = [[PUT], []]
        self.assertEqual(points(program), [(0, 0)])
        program[1].append(GET)
        self.assertEqual(points(program), [(0, 0), (1, 0)])
        self.assertEqual(deed_at(program, (1, 0)), GET)


class DeedAt(Programs):
    def test_deed_of_each_point(self):
        deeds = [PUT, GET, SWAP, PUT, ("put", "z", 12, ("when", "e", 0)), ("get", "x", "x", None)]
        for point, deed in zip(MIXED_POINTS, deeds):
            with self.subTest(point):
                self.assertEqual(self.told(deed_at, MIXED, point), deed)

    def test_none_of_what_is_no_point(self):
        great = 10 ** 60
        for h in (-great, -6, -5, -2, -1, 0, 1, 2, 3, 4, 5, 6, great):
            for k in (-great, -6, -3, -2, -1, 0, 1, 2, 3, 4, 5, 6, great):
                if (h, k) not in MIXED_POINTS:
                    with self.subTest(h=h, k=k):
                        self.assertIsNone(self.told(deed_at, MIXED, (h, k)))

    def test_none_just_beyond_the_last_point_where_fences_stand(self):
        program = [[PUT, FENCE, BAR, FENCE]]
        self.assertEqual(deed_at(program, (0, 0)), PUT)
        self.assertIsNone(deed_at(program, (0, 1)))

    def test_none_of_a_hand_without_deeds(self):
        for point in ((0, 0), (0, -1), (-1, 0), (1, 0)):
            with self.subTest(point):
                self.assertIsNone(deed_at(EMPTY, point))


class Places(Programs):
    def test_sorted_each_once(self):
        self.own(["x", "y", "z"], places, MIXED)
        program = [
            [("put", "z", 1, None), ("get", "a", "c", None)],
            [("swap", "a", "b", 1, None), ("put", "z", 2, None)],
        ]
        self.own(["b", "c", "z"], places, program)

    def test_cups_are_no_places(self):
        program = [[("get", "a", "x", ("when", "b", 1)), ("fence", ("when", "c", 1))]]
        self.own(["x"], places, program)

    def test_names_of_which_one_begins_another(self):
        names = ["ab", "b", "a", "abc", "aa", "aaaaaaaa", "ab"]
        program = [[("put", name, 1, None) for name in names]]
        self.own(["a", "aa", "aaaaaaaa", "ab", "abc", "b"], places, program)

    def test_none_where_no_deed_names_one(self):
        self.own([], places, EMPTY)
        self.own([], places, [[FENCE], [BAR], []])

    def test_places_of_deeds_that_are_passed_over_count(self):
        self.own(["x"], places, [[("put", "x", 1, ("when", "a", 1))]])


class Cups(Programs):
    def test_of_deeds_and_guards_sorted_each_once(self):
        program = [[
            ("get", "d", "x", ("when", "b", 1)),
            ("swap", "c", "y", 1, ("unless", "d", 1)),
            ("put", "z", 1, ("when", "a", 0)),
            ("get", "d", "y", None),
        ]]
        self.own(["a", "b", "c", "d"], cups, program, 0)

    def test_of_guards_of_fences_and_bars(self):
        self.own(["c"], cups, MIXED, 2)
        self.own(["p", "q"], cups, [[("bar", ("unless", "q", 1)), ("fence", ("when", "p", 0))]], 0)

    def test_of_one_hand_alone(self):
        self.own(["a"], cups, MIXED, 0)
        self.own([], cups, MIXED, 1)
        self.own(["b", "d", "e"], cups, MIXED, 3)
        self.own(["x"], cups, MIXED, 4)

    def test_places_are_no_cups(self):
        self.own([], cups, [[PUT, FENCE, BAR]], 0)
        self.own(["a"], cups, [[("swap", "a", "y", 1, None)]], 0)

    def test_names_of_which_one_begins_another(self):
        names = ["ab", "b", "a", "abc", "aa", "aaaaaaaa", "ab"]
        wanted = ["a", "aa", "aaaaaaaa", "ab", "abc", "b"]
        self.own(wanted, cups, [[], [("get", name, "x", None) for name in names]], 1)
        self.own(wanted, cups, [[], [("bar", ("when", name, 0)) for name in names]], 1)


class IsSmall(Programs):
    def small(self, program, wanted):
        self.assertIs(self.told(is_small, program), wanted)

    def test_hands(self):
        self.small(EMPTY, True)
        self.small([[]] * 4, True)
        self.small([[]] * 5, False)
        self.small([[PUT], [GET], [], [SWAP]], True)
        self.small([[PUT], [GET], [], [SWAP], []], False)

    def test_points(self):
        for deed in (PUT, GET, SWAP):
            with self.subTest(deed):
                self.small([[deed] * 6], True)
                self.small([[deed] * 7], False)
                self.small([[deed] * 3, [deed] * 2, [], [deed]], True)
                self.small([[deed] * 3, [deed] * 2, [deed], [deed]], False)

    def test_deeds(self):
        for stop in (FENCE, BAR):
            with self.subTest(stop):
                self.small([[stop] * 12], True)
                self.small([[stop] * 13], False)
                self.small([[stop] * 3] * 4, True)
                self.small([[stop] * 3, [stop] * 3, [stop] * 3, [stop] * 4], False)

    def test_all_bounds_at_once(self):
        program = [[PUT, FENCE, GET], [SWAP, BAR, FENCE], [PUT, BAR, PUT], [GET, BAR, FENCE]]
        self.small(program, True)
        self.small([program[0] + [FENCE]] + program[1:], False)
        self.small([[PUT, PUT, GET]] + program[1:], False)
        self.small(program + [[]], False)

    def test_deeds_that_are_passed_over_count(self):
        passed = ("put", "x", 1, ("when", "a", 1))
        self.small([[passed] * 6], True)
        self.small([[passed] * 7], False)
        self.small([[("fence", ("when", "a", 1))] * 13], False)


if __name__ == "__main__":
    unittest.main()
