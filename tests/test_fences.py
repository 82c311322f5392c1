import copy
import functools
import itertools
import unittest

from latewrite.errors import NoGap, TooGreat
from latewrite.fences import fewest, lightest, parts_of, shows
from latewrite.gaps import gaps
from latewrite.programs import is_small
from latewrite.rules import edges
from latewrite.runs import walked
from latewrite.search import tales
from latewrite.texts import read, shown

from helping import BEYOND, BOUNDS, GREAT, SLACKS, TEXTS, ends_of, has_order, is_ring, own_lists, own_lists_of_all
from helping import refuses_great, some_of, within_seconds

CROSSWISE = "put x 1; get a y | put y 1; get b x"
BACKWARD = "put x 1; put y 1 | get a y; get b x"
LINES = "put x 1; put y 2 | put y 1; put x 2"
ROUND = "put x 1; get a y | put y 1; get b z | put z 1; get c x"

# Some that need stops, by one slack or two; some have fences, bars and guards already.
NEEDY = [
    CROSSWISE,
    BACKWARD,
    LINES,
    ROUND,
    "idle | put x 1; bar; get a y | put y 1; get b x",
    "put x 1; put z 1; get a y | put y 1; get b x",
    "put x 1; get a x; get b y | put y 1; get a y; get b x",
    "put x 1; put y 1; get a z | put z 1; put y 2; get b x",
    "put x 1; bar; put y 1; get a z | put z 1; get b y; get c x",
    "put x 1; fence when a 1; get b y | put y 1; fence unless a 1; get b x",
    "put x 1; get a y; put z 1 when a 0 | put y 1; get b x; get c z",
    "put x 1; put y 1 | get a y; get b x when a 1; get c x unless a 1",
    "put x 1 | get a x; put y 1; get b z | put z 1; get c y",
    "put x 1; put y 1; put z 1 | get a z; get b y; get c x",
]

# At the bounds of what is small, and in need of stops.
NEEDY_BOUNDS = [
    "put x 1; get a y; bar; bar | put y 1; get b z; fence; bar | put z 1; get c x; fence | bar",
    "bar; put x 1; get a y; put z 1; fence | fence; put z 2; get b x; put y 1; fence; bar | bar | idle",
    "put x 1; put y 1; put z 1; bar; bar; fence | bar; bar; get a z; get b y; get c x; bar | idle | idle",
    "put x 1; put y 1; bar | bar; put y 2; put x 2; bar | fence; put x 3; bar | put y 3; fence",
    "put x 1; put y 1; put z 1; get a w; bar; bar; bar | put w 1; get b x; bar; bar; bar | idle | idle",
]


def put_in(program, some):
    """The program with these stops, each right ahead of its point."""
    words = {(h, k): word for h, k, word in some}
    hands = []
    for h, hand in enumerate(program):
        deeds = []
        k = 0
        for deed in hand:
            if deed[0] not in ("fence", "bar"):
                if (h, k) in words:
                    deeds.append((words[h, k], None))
                k += 1
            deeds.append(deed)
        hands.append(deeds)
    return hands


def late_ends(program, some, slack):
    """The tales, written, that the runs with these stops have, and that those of slack 0 have not."""
    return set(ends_of(put_in(program, some), slack)) - at_once(shown(program))


@functools.cache
def at_once(text):
    return set(ends_of(read(text), 0))


def all_stops(program, words):
    """All sets of stops with these words."""
    for some in some_of(gaps(program)):
        for chosen in itertools.product(words, repeat=len(some)):
            yield [(h, k, word) for (h, k), word in zip(some, chosen)]


def of_fences(*pairs):
    return [(h, k, "fence") for h, k in pairs]


def of_bars(*pairs):
    return [(h, k, "bar") for h, k in pairs]


class Fences(unittest.TestCase):
    def showing(self, program, some, *slack):
        """What is told, once it is sure that it is so and that all handed in stayed as it was."""
        kept = copy.deepcopy((program, some))
        answer = shows(program, some, *slack)
        self.assertEqual((program, some), kept)
        if answer is not None:
            self.assertIs(type(answer), tuple)
            tale, moves, ring = answer
            more = put_in(program, some)
            self.assertIs(type(moves), list)
            self.assertEqual(walked(more, moves, *slack), tale)
            is_ring(self, ring, edges(more, tale, 0))
            is_ring(self, ring, edges(program, tale, 0))
            self.assertFalse(has_order(program, tale, 0))
        return answer

    def none_by(self, text, some, wanted):
        """wanted: by which slacks None is told."""
        for slack in SLACKS:
            with self.subTest(text=text, some=some, slack=slack):
                self.assertEqual(self.showing(read(text), some, slack) is None, slack in wanted)

    def needs(self, text, some, light, slacks):
        """By these slacks: the fewest and the lightest."""
        for slack in slacks:
            with self.subTest(text=text, slack=slack):
                program = read(text)
                self.assertEqual(fewest(program, slack), some)
                self.assertEqual(lightest(program, slack), light)
                self.assertEqual(program, read(text))
                self.assertIsNone(self.showing(program, some, slack))
                self.assertIsNone(self.showing(program, light, slack))


class Shown(Fences):
    def test_crosswise(self):
        self.none_by(CROSSWISE, [], (0,))
        self.none_by(CROSSWISE, of_fences((0, 1)), (0,))
        self.none_by(CROSSWISE, of_fences((1, 1)), (0,))
        self.none_by(CROSSWISE, of_fences((0, 1), (1, 1)), SLACKS)
        self.none_by(CROSSWISE, of_fences((1, 1), (0, 1)), SLACKS)
        self.none_by(CROSSWISE, of_bars((0, 1), (1, 1)), (0,))
        self.none_by(CROSSWISE, of_bars((0, 1)) + of_fences((1, 1)), (0,))

    def test_backward(self):
        self.none_by(BACKWARD, [], (0, 1))
        self.none_by(BACKWARD, of_fences((0, 1)), SLACKS)
        self.none_by(BACKWARD, of_bars((0, 1)), SLACKS)
        self.none_by(BACKWARD, of_fences((1, 1)), (0, 1))
        self.none_by(BACKWARD, of_bars((1, 1)), (0, 1))

    def test_round(self):
        self.none_by(ROUND, of_fences((0, 1), (1, 1)), (0,))
        self.none_by(ROUND, of_fences((0, 1), (2, 1)), (0,))
        self.none_by(ROUND, of_fences((1, 1), (2, 1)), (0,))
        self.none_by(ROUND, of_fences((2, 1), (0, 1), (1, 1)), SLACKS)

    def test_the_whole_answer(self):
        tale = ([((0, 1), None), ((1, 1), None)], [("x", [(0, 0)]), ("y", [(1, 0)])])
        for some in ([], of_fences((0, 1)), of_fences((1, 1)), of_bars((0, 1), (1, 1))):
            for slack in (1, 2):
                with self.subTest(some=some, slack=slack):
                    self.assertEqual(self.showing(read(CROSSWISE), some, slack)[0], tale)

    def test_without_gaps(self):
        for text in ("idle", "idle | idle", "fence; bar | bar", "put x 1 | get a x | put x 2 | swap b x 3"):
            self.none_by(text, [], SLACKS)
            self.needs(text, [], [], SLACKS)

    def test_held_against_all_runs(self):
        for text in NEEDY:
            program = read(text)
            for slack in SLACKS:
                for some in all_stops(program, ("fence", "bar")):
                    if slack < 2 and len(some) > 2 and ("bar" in [word for h, k, word in some]):
                        continue
                    with self.subTest(text=text, some=some, slack=slack):
                        answer = self.showing(program, some, slack)
                        late = late_ends(program, some, slack)
                        self.assertEqual(answer is None, not late)
                        if answer is not None:
                            self.assertIn(repr(answer[0]), late)

    def test_other_programs(self):
        for text in TEXTS + BOUNDS[3:5]:
            program = read(text)
            for slack in SLACKS:
                for some in ([], [(h, k, "bar") for h, k in gaps(program)]):
                    with self.subTest(text=text, some=some, slack=slack):
                        late = late_ends(program, some, slack)
                        self.assertEqual(self.showing(program, some, slack) is None, not late)

    def test_fences_in_all_gaps(self):
        for text in TEXTS + BOUNDS + NEEDY + NEEDY_BOUNDS:
            self.none_by(text, of_fences(*gaps(read(text))), SLACKS)

    def test_the_slack_left_out(self):
        self.assertIsNone(self.showing(read(BACKWARD), [], 1))
        self.assertIsNotNone(self.showing(read(BACKWARD), []))
        self.assertIsNone(self.showing(read(BACKWARD), of_bars((0, 1))))
        self.assertIsNotNone(shows(read(BACKWARD), [], slack=2))

    def test_what_was_told_stays(self):
        own_lists_of_all(self, lambda program, slack: shows(program, [], slack), NEEDY)
        for text in NEEDY:
            with self.subTest(text):
                own_lists(self, shows, read(text), of_bars(gaps(read(text))[-1]))


class Fewest(Fences):
    def test_crosswise(self):
        both = of_fences((0, 1), (1, 1))
        self.needs(CROSSWISE, both, both, (1, 2))

    def test_three_in_a_ring(self):
        every = of_fences((0, 1), (1, 1), (2, 1))
        self.needs(ROUND, every, every, (1, 2))

    def test_backward(self):
        self.needs(BACKWARD, [], [], (1,))
        self.needs(BACKWARD, of_fences((0, 1)), of_bars((0, 1)), (2,))

    def test_lines(self):
        self.needs(LINES, [], [], (1,))
        self.needs(LINES, of_fences((0, 1), (1, 1)), of_bars((0, 1), (1, 1)), (2,))

    def test_fences_and_bars_that_are_there_already(self):
        self.needs("put x 1; fence; get a y | put y 1; get b x", of_fences((1, 1)), of_fences((1, 1)), (1, 2))
        self.needs("put x 1; get a y | put y 1; fence; get b x", of_fences((0, 1)), of_fences((0, 1)), (1, 2))
        self.needs("put x 1; fence; get a y | put y 1; fence; get b x", [], [], (1, 2))
        self.needs("put x 1; swap c z 1; get a y | put y 1; get b x", of_fences((1, 1)), of_fences((1, 1)), (1, 2))
        both = of_fences((0, 1), (1, 1))
        self.needs("put x 1; bar; get a y | put y 1; bar; get b x", both, both, (1, 2))
        self.needs("fence; put x 1; get a y; fence | put y 1; get b x", both, both, (1, 2))
        self.needs("put x 1; bar; put y 1 | get a y; get b x", [], [], (1, 2))
        self.needs("put x 1; bar; put y 2 | put y 1; put x 2", of_fences((1, 1)), of_bars((1, 1)), (2,))

    def test_guards(self):
        both = of_fences((0, 1), (1, 1))
        self.needs("put x 1; fence when a 1; get b y | put y 1; fence when a 1; get b x", both, both, (1, 2))
        self.needs("put x 1; fence unless a 1; get b y | put y 1; fence unless a 1; get b x", [], [], (1, 2))
        # One of the gets is never done.
        self.needs("put x 1; get b y when a 1 | put y 1; get b x", [], [], (1, 2))
        self.needs("put x 1; get b y when a 0 | put y 1; get b x unless a 1", both, both, (1, 2))

    def test_of_several_the_least(self):
        # The fence of hand 0 may stand in either of its gaps.
        text = "put x 1; put z 1; get a y | put y 1; get b x"
        for some in (of_fences((0, 1), (1, 1)), of_fences((0, 2), (1, 1))):
            self.none_by(text, some, SLACKS)
        self.needs(text, of_fences((0, 1), (1, 1)), of_fences((0, 1), (1, 1)), (1, 2))
        text = "put x 1; get a z; get b y | put y 1; get c z; get d x"
        self.needs(text, of_fences((0, 1), (1, 1)), of_fences((0, 1), (1, 1)), (1, 2))
        # Fewer go ahead of what is less as lists are compared.
        text = "put x 1; put y 1; get a z | put z 1; get b y; get c x"
        self.assertEqual(fewest(read(text), 1), of_fences((0, 2), (1, 1)))

    def test_in_what_order_sets_are_tried(self):
        every = of_fences((0, 1), (0, 2), (1, 1), (2, 1))
        wanted = sorted(some_of(every), key=lambda some: (len(some), some))
        self.assertEqual(parts_of(every), wanted)
        self.assertEqual(parts_of([]), [[]])

    def test_fences_and_bars_at_once(self):
        text = "put x 1; put y 1; get a z | put z 1; put y 2; get b x"
        every = of_fences((0, 1), (0, 2), (1, 1), (1, 2))
        light = [(0, 1, "bar"), (0, 2, "fence"), (1, 1, "bar"), (1, 2, "fence")]
        self.needs(text, every, light, (2,))
        self.needs(text, of_fences((0, 2), (1, 2)), of_fences((0, 2), (1, 2)), (1,))

    def test_slack_nought_needs_none(self):
        for text in TEXTS + BOUNDS + NEEDY + NEEDY_BOUNDS:
            self.needs(text, [], [], (0,))

    def test_held_against_all_sets_of_stops(self):
        for text in NEEDY + TEXTS[1:10]:
            program = read(text)
            for slack in (1, 2):
                with self.subTest(text=text, slack=slack):
                    enough = [some for some in all_stops(program, ("fence",)) if not late_ends(program, some, slack)]
                    least = min(enough, key=lambda some: (len(some), sorted(some)))
                    self.needs(text, least, self.turned(program, least, slack), (slack,))

    def turned(self, program, some, slack):
        """The fences that can be turned into bars, one by one."""
        for at, (h, k, word) in enumerate(list(some)):
            other = some[:at] + [(h, k, "bar")] + some[at + 1:]
            if not late_ends(program, other, slack):
                some = other
        return some

    def test_no_smaller_set_does_it(self):
        for text in NEEDY + NEEDY_BOUNDS:
            program = read(text)
            for slack in (1, 2):
                found = fewest(program, slack)
                for some in all_stops(program, ("fence",)):
                    if len(some) < len(found) or len(some) == len(found) and some < found:
                        with self.subTest(text=text, some=some, slack=slack):
                            self.assertIsNotNone(self.showing(program, some, slack))

    def test_the_tales_are_just_those_of_slack_nought(self):
        for text in NEEDY:
            program = read(text)
            wanted = sorted(ends_of(program, 0))
            for slack in (1, 2):
                for some in (fewest(program, slack), lightest(program, slack)):
                    with self.subTest(text=text, some=some, slack=slack):
                        self.assertEqual(sorted(ends_of(put_in(program, some), slack)), wanted)
                        if is_small(put_in(program, some)):
                            told = [repr(tale) for tale, moves in tales(put_in(program, some), slack)]
                            self.assertEqual(sorted(told), wanted)

    def test_the_slack_left_out(self):
        program = read(BACKWARD)
        self.assertEqual(fewest(program), of_fences((0, 1)))
        self.assertEqual(lightest(program), of_bars((0, 1)))
        self.assertEqual([fewest(program, slack=1), lightest(program, slack=1)], [[], []])

    def test_what_was_told_stays(self):
        own_lists_of_all(self, fewest, NEEDY)
        own_lists_of_all(self, lightest, NEEDY)


class Bounds(Fences):
    def test_within_seconds(self):
        for text in BOUNDS + NEEDY_BOUNDS:
            program = read(text)
            self.assertTrue(is_small(program))
            self.assertEqual(sum(map(len, program)), 12)
        for ask in (fewest, lightest, lambda one, slack: shows(one, of_fences(*gaps(one)), slack)):
            within_seconds(self, ask, BOUNDS + NEEDY_BOUNDS)

    def test_stops_do_not_make_it_too_great(self):
        text = "put x 1; get a y; bar; bar; bar; bar | put y 1; get b x; fence; fence; fence; fence"
        both = of_fences((0, 1), (1, 1))
        self.assertFalse(is_small(put_in(read(text), both[:1])))
        self.needs(text, both, both, (1, 2))
        self.none_by(text, both, SLACKS)
        self.none_by(text, both[:1], (0,))
        self.none_by(text, of_bars((0, 1)) + both[1:], (0,))
        for text in NEEDY_BOUNDS:
            program = read(text)
            self.assertFalse(is_small(put_in(program, of_fences(*gaps(program)))))
            self.none_by(text, of_fences(*gaps(program)), SLACKS)
            self.assertIsNotNone(self.showing(program, of_fences(gaps(program)[-1]), 2))

    def test_needy_ones_at_the_bounds(self):
        ring = of_fences((0, 1), (1, 1), (2, 1))
        self.needs(NEEDY_BOUNDS[0], ring, ring, (1, 2))
        self.needs(NEEDY_BOUNDS[2], of_fences((0, 1), (0, 2)), of_bars((0, 1), (0, 2)), (2,))
        self.needs(NEEDY_BOUNDS[3], of_fences((0, 1), (1, 1)), of_bars((0, 1), (1, 1)), (2,))
        self.needs(NEEDY_BOUNDS[4], of_fences((0, 1), (1, 1)), of_fences((0, 1), (1, 1)), (1, 2))


class Refused(Fences):
    def test_what_is_not_small(self):
        refuses_great(self, fewest)
        refuses_great(self, lightest)
        refuses_great(self, lambda program, *slack: shows(program, [], *slack))
        refuses_great(self, lambda program, *slack: shows(program, of_fences(*gaps(program)[:1]), *slack))
        refuses_great(self, lambda program, *slack: shows(program, of_bars(*gaps(program)), *slack))

    def refused(self, text, some):
        for slack in ((0,), (1,), (2,), ()):
            program = read(text)
            kept = list(some)
            with self.subTest(text=text, some=some, slack=slack):
                with self.assertRaises(NoGap):
                    shows(program, some, *slack)
                self.assertEqual((program, some), (read(text), kept))

    def test_what_is_no_gap(self):
        for h, k in ((0, 0), (0, 2), (0, -1), (1, 0), (1, 2), (2, 1), (-1, 1), (-2, 1), (6, 1)):
            for word in ("fence", "bar"):
                self.refused(CROSSWISE, [(h, k, word)])
                self.refused(CROSSWISE, [(0, 1, "fence"), (h, k, word)])
        self.refused("idle", of_fences((0, 0)))
        self.refused("idle", of_fences((0, 1)))

    def test_two_of_one_gap(self):
        for words in itertools.product(("fence", "bar"), repeat=2):
            self.refused(CROSSWISE, [(0, 1, word) for word in words])
            self.refused(CROSSWISE, [(1, 1, words[0]), (0, 1, "bar"), (1, 1, words[1])])

    def test_no_gap_goes_ahead_of_too_great(self):
        for text in BEYOND + GREAT:
            self.refused(text, of_fences((0, 0)))
            self.refused(text, of_bars((9, 1)))
            self.refused(text, of_fences((-1, 1)))
            for h, k in gaps(read(text))[:1]:
                self.refused(text, [(h, k, "fence"), (h, k, "bar")])
                with self.assertRaises(TooGreat):
                    shows(read(text), [(h, k, "fence")])


if __name__ == "__main__":
    unittest.main()
