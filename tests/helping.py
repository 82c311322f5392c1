"""What several tests need: small programs, all that could be told of them, and all their runs."""

import copy
import itertools
import time

from latewrite.deeds import is_read, is_write, place_of
from latewrite.errors import NoTale, TooGreat
from latewrite.machines import machine
from latewrite.programs import deed_at, is_small, places, points
from latewrite.rules import edges
from latewrite.tales import points_of
from latewrite.texts import read

SLACKS = (0, 1, 2)

TEXTS = [
    "idle | fence; bar; fence; fence; bar; bar",
    "put x 1; get a y | put y 1; get b x",
    "put x 1; fence; get a y | put y 1; get b x",
    "put x 1; fence; get a y | put y 1; fence; get b x",
    "put x 1; bar; get a y | put y 1; swap c z 1; get b x",
    "put x 1; put y 1 | get a y; get b x",
    "put x 1; bar; put y 1 | get a y; get b x",
    "put x 1; fence; put y 1 | get a y; get b x",
    "get a x; put y 1 | get b y; put x 1",
    "put x 1; put y 2 | put y 1; put x 2",
    "put x 1; bar; put y 2 | put y 1; bar; put x 2",
    "put x 1; put x 2; get a x | get b x; get c x",
    "put x 1; get a x; get b y | put y 1; get a y; get b x",
    "put x 1 | get a x; put y 1 when a 1; get c z | get b y; get c x unless b 0",
    "swap a x 1; put x 2 when a 0 | swap b x 3; get c x",
    "get a x; put x 1 when a 1; put y 5 unless a 1 | get b y; put x 1 when b 5",
    "put x 1; bar when a 0; put y 2; bar unless a 0; put z 3 | get b z; get c x",
    "put y 1; swap a x 1; put x 2 | swap b x 3; get c y",
    "put x 1 | put x 2 | get a x; get b x | get c x; get d x",
]

# At the bounds of what is small: four hands, six points, twelve deeds.
BOUNDS = [
    "put x 1; bar; get a x | put x 2; fence; get b x; bar | bar; put x 3; fence | bar; get c x",
    "bar; swap a x 1; fence; swap b x 2 | bar; swap a x 3; swap b x 4; fence | fence; swap a x 5 | swap a x 6; bar",
    "swap a x 1; put x 1; bar | bar; put x 2; bar; get a x | fence; put x 2; bar | get a x; fence",
    "put x 1; put y 1; put z 1; bar; bar; fence | bar; bar; get a z; get b y; get c x; bar | idle | idle",
    "put x 1; put y 1; bar | bar; put y 2; put x 2; bar | fence; put x 3; bar | put y 3; fence",
    "get a x; bar; put y 1 when a 0 | get a y; put x 2 unless a 1; bar | bar; put x 1; bar | fence; put y 3; fence",
    "put v 1; bar; put w 2; put x 3; put y 4; bar; put z 5; get a v; fence; bar; fence; bar | idle | idle | idle",
]

# Each beyond one of the bounds of what is small; the last ones beyond all of them.
BEYOND = [
    "idle | idle | idle | idle | idle",
    "put x 1 | get a x | idle | idle | idle",
    "idle | idle | idle | idle | idle | idle",
    "; ".join(["put x 1"] * 7),
    "get a x; get a x | get a x; get a x | swap a x 1; swap a x 1 | put x 1",
    # Points that are passed over count, too.
    "; ".join(["put x 1"] * 6) + "; put x 1 when a 1",
    "; ".join(["fence"] * 13),
    "; ".join(["bar"] * 7) + " | " + "; ".join(["get a x"] * 6),
    "; ".join(["fence when a 1"] * 12) + " | bar",
    " | ".join(["; ".join(["put x 1; get a y"] * 3)] * 6),
    "; ".join(["put x 1; get a y"] * 20),
]

# Six hands and forty deeds each.
GREAT = [
    " | ".join(
        ["put x 1; get a y; put y 2; bar; put x 3; get b x; put z 4"] * 4
        + ["put z 5; get a x; fence; get b z; swap c y 6; get c x"] * 2
    ),
    " | ".join(
        ["put x 1; bar; put y 2; fence; swap a z 3; put x 4 when a 3"] * 2
        + ["get a x; put z 7; get b z; put y 8; bar; get a x; put z 9 unless b 7"] * 4
    ),
    " | ".join(
        ["put x 1; put y 1; put z 1; put x 2; put y 2; put z 2; get a w"] * 4
        + ["get a z; get a y; get a x; put w 1; put w 2; bar"] * 2
    ),
]


def tale_of(froms, lines):
    """froms: a dict of sources by readers; lines: a dict of lists by places."""
    return (sorted(froms.items(), key=lambda pair: pair[0]), sorted(lines.items()))


def keeps(order, found):
    """Whether of each of these edges the first point stands ahead of the second one."""
    return all(order.index(one) < order.index(other) for one, other, word in found)


def is_ring(case, steps, found):
    """That steps lead round along these edges, from point to point, to none of them twice."""
    case.assertIs(type(steps), list)
    case.assertGreater(len(steps), 1)
    case.assertEqual([type(step) for step in steps], [tuple] * len(steps))
    case.assertEqual(len({point for point, word in steps}), len(steps))
    for (point, word), (other, other_word) in zip(steps, steps[1:] + steps[:1]):
        case.assertIn((point, other, word), found)


def ends_of(program, slack):
    """The tale, written, and the outcome of each run; machines that stand alike are followed once."""
    ends = {}
    seen = set()
    rest = [(machine(program, slack), (0,) * len(program))]
    while rest:
        one, done = rest.pop()
        if one.ended():
            ends[repr(one.tale())] = one.outcome()
        for move in one.moves():
            other = one.twin()
            other.do(move)
            # Fences, and bars in a row, are not told: how many deeds each hand has done says which they are.
            count = tuple(many + (move == ("do", h)) for h, many in enumerate(done))
            key = repr((other.tale(), [other.row(h) for h in range(len(program))], count))
            if key not in seen:
                seen.add(key)
                rest.append((other, count))
    return ends


def some_run(program, slack, turn):
    """A run that goes its own way for each turn, any whole number; and its tale."""
    one = machine(program, slack)
    moves = []
    while not one.ended():
        free = one.moves()
        turn = (turn * 1103 + 12345) % 65536
        moves.append(free[turn // 16 % len(free)])
        one.do(moves[-1])
    return moves, one.tale()


def barred():
    """Small programs, a bar ahead of each put."""
    programs = [read(text.replace("put", "bar; put")) for text in TEXTS]
    return [program for program in programs if is_small(program)]


def came(program, moves, slack=2):
    """The points as they came to the places, told by the kinds of the deeds."""
    one = machine(program, slack)
    order = []
    for move in moves:
        h = move[1]
        if move[0] == "do":
            k, deed = one.due(h)
            one.do(move)
            if deed[0] in ("get", "swap") or deed[0] == "put" and slack == 0:
                order.append((h, k))
        else:
            one.do(move)
            order.append(one.line(move[2])[-1])
    return order


def some_of(things):
    return [list(part) for size in range(len(things) + 1) for part in itertools.combinations(things, size)]


def tales_of(program):
    """All that could be told: any readers with any sources, any points in any order in each place's line."""
    writers = {place: [] for place in places(program)}
    readers = []
    for point in points(program):
        deed = deed_at(program, point)
        if is_read(deed):
            readers.append(point)
        if is_write(deed):
            writers[place_of(deed)].append(point)
    lines = []
    for place, those in writers.items():
        lines.append([(place, list(line)) for some in some_of(those) for line in itertools.permutations(some)])
    for told in some_of(readers):
        sources = [[None] + writers[place_of(deed_at(program, reader))] for reader in told]
        for chosen in itertools.product(*sources):
            for picked in itertools.product(*lines):
                yield (list(zip(told, chosen)), list(picked))


def whole_tales(program):
    """Those of them that are whole."""
    whole = []
    for tale in tales_of(program):
        try:
            points_of(program, tale)
        except NoTale:
            continue
        whole.append(tale)
    return whole


def has_order(program, tale, slack):
    """Takes away, while it can, a point that no edge of the rest leads to."""
    rest = points_of(program, tale)
    kept = edges(program, tale, slack)
    while rest:
        led_to = {other for one, other, word in kept}
        free = [point for point in rest if point not in led_to]
        if not free:
            return False
        rest = [point for point in rest if point not in free]
        kept = [edge for edge in kept if edge[0] not in free]
    return True


def told_in(program, order):
    """The tale that a list of points tells, whether it is an order or not."""
    deeds = {point: deed_at(program, point) for point in order}
    lines = {place: [] for place in places(program)}
    for point in order:
        if is_write(deeds[point]):
            lines[place_of(deeds[point])].append(point)
    froms = {}
    for at, reader in enumerate(order):
        if is_read(deeds[reader]):
            seen = set(order[:at])
            if deeds[reader][0] == "get":
                seen.update(point for point in order if point[0] == reader[0] and point[1] < reader[1])
            froms[reader] = ([None] + [point for point in lines[place_of(deeds[reader])] if point in seen])[-1]
    return tale_of(froms, lines)


def orders_of(program):
    """By slacks: the tales, written, that all orders tell, with these orders. All lists of points are gone through."""
    told = {slack: {} for slack in SLACKS}
    for some in some_of(points(program)):
        for order in itertools.permutations(some):
            tale = told_in(program, order)
            try:
                done = points_of(program, tale)
            except NoTale:
                continue
            for slack in SLACKS:
                kept = [edge for edge in edges(program, tale, slack) if edge[2] == "hand"]
                if done == sorted(order) and keeps(order, kept):
                    told[slack].setdefault(repr(tale), []).append(list(order))
    return told


def answered(case, ask, *given):
    """The list of tuples that is told, once it is sure that what is given stayed as it was."""
    kept = copy.deepcopy(given)
    answer = ask(*given)
    case.assertEqual(given, kept)
    case.assertIs(type(answer), list)
    case.assertEqual([type(one) for one in answer], [tuple] * len(answer))
    return answer


def lists_in(thing):
    """The thing, where it is a list, and all lists within it."""
    if not isinstance(thing, (list, tuple)):
        return []
    found = [thing] if isinstance(thing, list) else []
    for part in thing:
        found.extend(lists_in(part))
    return found


def own_lists(case, ask, *given):
    """What is told is new each time, no list twice in it; spoiling it changes neither what was told nor the given."""
    kept_given = copy.deepcopy(given)
    first = ask(*given)
    kept = copy.deepcopy(first)
    again = ask(*given)
    case.assertEqual(again, kept)
    lists = lists_in(again)
    case.assertEqual(len({id(one) for one in lists + lists_in(first) + lists_in(given)}),
                     len(lists) * 2 + len({id(one) for one in lists_in(given)}))
    for one in lists:
        one.append("spoiled")
        one.reverse()
    case.assertEqual(first, kept)
    case.assertEqual(given, kept_given)
    case.assertEqual(ask(*given), kept)


def own_lists_of_all(case, ask, texts):
    """That, of each of these programs and by each slack."""
    for text in texts:
        for slack in SLACKS:
            with case.subTest(text=text, slack=slack):
                own_lists(case, ask, read(text), slack)


def within_seconds(case, ask, texts):
    for text in texts:
        program = read(text)
        for slack in SLACKS:
            with case.subTest(text=text, slack=slack):
                start = time.process_time()
                ask(program, slack)
                case.assertLess(time.process_time() - start, 5)


def refuses_great(case, ask):
    """A program that isn't small is refused, by each slack and with the slack left out."""
    for text in BEYOND + GREAT:
        for slack in ((0,), (1,), (2,), ()):
            with case.subTest(text=text, slack=slack):
                program = read(text)
                with case.assertRaises(TooGreat):
                    ask(program, *slack)
                case.assertEqual(program, read(text))
