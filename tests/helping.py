"""What several tests need: small programs, all that could be told of them, and all their runs."""

import itertools

from latewrite.deeds import is_read, is_write, place_of
from latewrite.errors import NoTale
from latewrite.machines import machine
from latewrite.programs import deed_at, places, points
from latewrite.rules import edges
from latewrite.tales import points_of

SLACKS = (0, 1, 2)

TEXTS = [
    "idle | fence; bar; fence; fence; bar; bar",
    "put x 1; get a y | put y 1; get b x",
    "put x 1; fence; get a y | put y 1; get b x",
    "put x 1; fence; get a y | put y 1; fence; get b x",
    "put x 1; bar; get a y | put y 1; swap c z 1; get b x",
    "put x 1; put y 1 | get a y; get b x",
    "put x 1; bar; put y 1 | get a y; get b x",
    "put x 1; fence; put y 1 | get a y; get b x",
    "get a x; put y 1 | get b y; put x 1",
    "put x 1; put y 2 | put y 1; put x 2",
    "put x 1; bar; put y 2 | put y 1; bar; put x 2",
    "put x 1; put x 2; get a x | get b x; get c x",
    "put x 1; get a x; get b y | put y 1; get a y; get b x",
    "put x 1 | get a x; put y 1 when a 1; get c z | get b y; get c x unless b 0",
    "swap a x 1; put x 2 when a 0 | swap b x 3; get c x",
    "get a x; put x 1 when a 1; put y 5 unless a 1 | get b y; put x 1 when b 5",
    "put x 1; bar when a 0; put y 2; bar unless a 0; put z 3 | get b z; get c x",
    "put y 1; swap a x 1; put x 2 | swap b x 3; get c y",
    "put x 1 | put x 2 | get a x; get b x | get c x; get d x",
]

# Six hands and forty deeds each.
GREAT = [
    " | ".join(
        ["put x 1; get a y; put y 2; bar; put x 3; get b x; put z 4"] * 4
        + ["put z 5; get a x; fence; get b z; swap c y 6; get c x"] * 2
    ),
    " | ".join(
        ["put x 1; bar; put y 2; fence; swap a z 3; put x 4 when a 3"] * 2
        + ["get a x; put z 7; get b z; put y 8; bar; get a x; put z 9 unless b 7"] * 4
    ),
    " | ".join(
        ["put x 1; put y 1; put z 1; put x 2; put y 2; put z 2; get a w"] * 4
        + ["get a z; get a y; get a x; put w 1; put w 2; bar"] * 2
    ),
]


def tale_of(froms, lines):
    """froms: a dict of sources by readers; lines: a dict of lists by places."""
    return (sorted(froms.items(), key=lambda pair: pair[0]), sorted(lines.items()))


def keeps(order, found):
    """Whether of each of these edges the first point stands ahead of the second one."""
    return all(order.index(one) < order.index(other) for one, other, word in found)


def ends_of(program, slack):
    """The tale, written, and the outcome of each run; machines that stand alike are followed once."""
    ends = {}
    seen = set()
    rest = [(machine(program, slack), (0,) * len(program))]
    while rest:
        one, done = rest.pop()
        if one.ended():
            ends[repr(one.tale())] = one.outcome()
        for move in one.moves():
            other = one.twin()
            other.do(move)
            # Fences, and bars in a row, are not told: how many deeds each hand has done says which they are.
            count = tuple(many + (move == ("do", h)) for h, many in enumerate(done))
            key = repr((other.tale(), [other.row(h) for h in range(len(program))], count))
            if key not in seen:
                seen.add(key)
                rest.append((other, count))
    return ends


def some_run(program, slack, turn):
    """A run that goes its own way for each turn, any whole number; and its tale."""
    one = machine(program, slack)
    moves = []
    while not one.ended():
        free = one.moves()
        turn = (turn * 1103 + 12345) % 65536
        moves.append(free[turn // 16 % len(free)])
        one.do(moves[-1])
    return moves, one.tale()


def some_of(things):
    return [list(part) for size in range(len(things) + 1) for part in itertools.combinations(things, size)]


def tales_of(program):
    """All that could be told: any readers with any sources, any points in any order in each place's line."""
    writers = {place: [] for place in places(program)}
    readers = []
    for point in points(program):
        deed = deed_at(program, point)
        if is_read(deed):
            readers.append(point)
        if is_write(deed):
            writers[place_of(deed)].append(point)
    lines = []
    for place, those in writers.items():
        lines.append([(place, list(line)) for some in some_of(those) for line in itertools.permutations(some)])
    for told in some_of(readers):
        sources = [[None] + writers[place_of(deed_at(program, reader))] for reader in told]
        for chosen in itertools.product(*sources):
            for picked in itertools.product(*lines):
                yield (list(zip(told, chosen)), list(picked))


def whole_tales(program):
    """Those of them that are whole."""
    whole = []
    for tale in tales_of(program):
        try:
            points_of(program, tale)
        except NoTale:
            continue
        whole.append(tale)
    return whole


def has_order(program, tale, slack):
    """Takes away, while it can, a point that no edge of the rest leads to."""
    rest = points_of(program, tale)
    kept = edges(program, tale, slack)
    while rest:
        led_to = {other for one, other, word in kept}
        free = [point for point in rest if point not in led_to]
        if not free:
            return False
        rest = [point for point in rest if point not in free]
        kept = [edge for edge in kept if edge[0] not in free]
    return True
