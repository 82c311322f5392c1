"""The machine and the rules tell the same: a whole tale has no ring of edges just where some run has it."""

import itertools
import unittest

from latewrite.deeds import is_read, is_write, place_of
from latewrite.errors import NoTale
from latewrite.machines import machine
from latewrite.programs import deed_at, places, points
from latewrite.rules import edges
from latewrite.tales import outcome_of, points_of
from latewrite.texts import read

TEXTS = [
    "idle | fence; bar; fence; fence; bar; bar",
    "put x 1; get a y | put y 1; get b x",
    "put x 1; fence; get a y | put y 1; get b x",
    "put x 1; fence; get a y | put y 1; fence; get b x",
    "put x 1; bar; get a y | put y 1; swap c z 1; get b x",
    "put x 1; put y 1 | get a y; get b x",
    "put x 1; bar; put y 1 | get a y; get b x",
    "put x 1; fence; put y 1 | get a y; get b x",
    "get a x; put y 1 | get b y; put x 1",
    "put x 1; put y 2 | put y 1; put x 2",
    "put x 1; bar; put y 2 | put y 1; bar; put x 2",
    "put x 1; put x 2; get a x | get b x; get c x",
    "put x 1; get a x; get b y | put y 1; get a y; get b x",
    "put x 1 | get a x; put y 1 when a 1; get c z | get b y; get c x unless b 0",
    "swap a x 1; put x 2 when a 0 | swap b x 3; get c x",
    "get a x; put x 1 when a 1; put y 5 unless a 1 | get b y; put x 1 when b 5",
    "put x 1; bar when a 0; put y 2; bar unless a 0; put z 3 | get b z; get c x",
    "put y 1; swap a x 1; put x 2 | swap b x 3; get c y",
    "put x 1 | put x 2 | get a x; get b x | get c x; get d x",
]


def ends_of(program, slack):
    """The tale, written, and the outcome of each run; machines that stand alike are followed once."""
    ends = {}
    seen = set()
    rest = [(machine(program, slack), (0,) * len(program))]
    while rest:
        one, done = rest.pop()
        if one.ended():
            ends[repr(one.tale())] = one.outcome()
        for move in one.moves():
            other = one.twin()
            other.do(move)
            # Fences, and bars in a row, are not told: how many deeds each hand has done says which they are.
            count = tuple(many + (move == ("do", h)) for h, many in enumerate(done))
            key = repr((other.tale(), [other.row(h) for h in range(len(program))], count))
            if key not in seen:
                seen.add(key)
                rest.append((other, count))
    return ends


def some_of(things):
    return [list(part) for size in range(len(things) + 1) for part in itertools.combinations(things, size)]


def tales_of(program):
    """All that could be told: any readers with any sources, any points in any order in each place's line."""
    writers = {place: [] for place in places(program)}
    readers = []
    for point in points(program):
        deed = deed_at(program, point)
        if is_read(deed):
            readers.append(point)
        if is_write(deed):
            writers[place_of(deed)].append(point)
    lines = []
    for place, those in writers.items():
        lines.append([(place, list(line)) for some in some_of(those) for line in itertools.permutations(some)])
    for told in some_of(readers):
        sources = [[None] + writers[place_of(deed_at(program, reader))] for reader in told]
        for chosen in itertools.product(*sources):
            for picked in itertools.product(*lines):
                yield (list(zip(told, chosen)), list(picked))


def has_order(program, tale, slack):
    """Takes away, while it can, a point that no edge of the rest leads to."""
    rest = points_of(program, tale)
    kept = edges(program, tale, slack)
    while rest:
        led_to = {other for one, other, word in kept}
        free = [point for point in rest if point not in led_to]
        if not free:
            return False
        rest = [point for point in rest if point not in free]
        kept = [edge for edge in kept if edge[0] not in free]
    return True


class Agreement(unittest.TestCase):
    def test_tales_and_outcomes(self):
        for text in TEXTS:
            program = read(text)
            whole = []
            for tale in tales_of(program):
                try:
                    whole.append((tale, outcome_of(program, tale)))
                except NoTale:
                    continue
            for slack in (0, 1, 2):
                with self.subTest(text=text, slack=slack):
                    wanted = {repr(tale): outcome for tale, outcome in whole if has_order(program, tale, slack)}
                    self.assertEqual(ends_of(program, slack), wanted)

    def test_less_slack_adds_no_tale(self):
        for text in TEXTS:
            with self.subTest(text):
                at_once, late, loose = [set(ends_of(read(text), slack)) for slack in (0, 1, 2)]
                self.assertTrue(at_once <= late <= loose)

    def test_what_may_come_late(self):
        """How many tales there are by each slack, counted by hand for the plainest programs."""
        self.assertEqual([len(ends_of(read(TEXTS[1]), slack)) for slack in (0, 1, 2)], [3, 4, 4])
        self.assertEqual([len(ends_of(read(TEXTS[5]), slack)) for slack in (0, 1, 2)], [3, 3, 4])
        self.assertEqual([len(ends_of(read(TEXTS[6]), slack)) for slack in (0, 1, 2)], [3, 3, 3])
        self.assertEqual([len(ends_of(read(TEXTS[8]), slack)) for slack in (0, 1, 2)], [3, 3, 3])
        self.assertEqual([len(ends_of(read(TEXTS[9]), slack)) for slack in (0, 1, 2)], [3, 3, 4])


if __name__ == "__main__":
    unittest.main()
