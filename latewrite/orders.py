"""Orders: which lists of points are orders of a program, the tale that one tells, and a run that goes by it."""

from latewrite.deeds import is_read, place_of
from latewrite.errors import NoOrder, NoTale
from latewrite.machines import machine
from latewrite.programs import deed_at, places
from latewrite.rules import hand_edges, is_ahead
from latewrite.tales import last_of, whole_walk, writers_to


# A whole tale's points are its readers and what its lines have: here, then, just the points of the list.
def tale_by(program, order, slack=2):
    tale = told_by(program, listed(program, order))
    for one, other, word in hand_edges(walk_told(program, tale), slack):
        if order.index(one) > order.index(other):
            raise NoOrder("a point stands ahead of one that its hand keeps ahead of it")
    return tale


# The deeds by their points, as these stand in the list.
def listed(program, order):
    deeds = dict([(point, deed_at(program, point)) for point in order])
    if None in list(deeds.values()):
        raise NoOrder("one of the list is no point of the program")
    if len(deeds) != len(order):
        raise NoOrder("a point stands twice in the list")
    return deeds


def told_by(program, deeds):
    readers = [point for point in sorted(deeds) if is_read(deeds[point])]
    froms = [(reader, source_in(deeds, reader)) for reader in readers]
    return (froms, [(place, writers_to(deeds, place)) for place in places(program)])


# A get sees what its own hand has put ahead of it, even where that comes to the place only behind the get.
def source_in(deeds, reader):
    order = list(deeds)
    seen = order[:order.index(reader)]
    if deeds[reader][0] == "get":
        seen.extend([one for one in order if is_ahead(one, reader)])
    return last_of([one for one in writers_to(deeds, place_of(deeds[reader])) if one in seen])


def walk_told(program, tale):
    try:
        return whole_walk(program, tale)
    except NoTale:
        raise NoOrder("the tale that the list tells is not whole") from None


# Each hand does only what the list's next point needs, and a put is settled when it stands next. The edges `hand` see
# to it that no fence, swap or settling is hindered then by what still waits in the hand's row.
def run_by(program, order, slack=2):
    tale_by(program, order, slack)
    one = machine(program, slack)
    moves = []
    for point in order:
        do_up_to(one, moves, point)
        if point in one.row(point[0]):
            go(one, moves, ("settle", point[0], place_of(deed_at(program, point))))
    # Behind a hand's last point there may be fences and bars yet.
    for h, hand in enumerate(program):
        do_up_to(one, moves, (h, len(hand)))
    return moves


def do_up_to(one, moves, point):
    h = point[0]
    while one.due(h) is not None and one.due(h)[0] <= point[1]:
        go(one, moves, ("do", h))


def go(one, moves, move):
    one.do(move)
    moves.append(move)
