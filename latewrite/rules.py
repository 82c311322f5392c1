"""Rules: the edges between a whole tale's points, by each slack."""

from latewrite.deeds import is_write, place_of
from latewrite.tales import whole_walk


def edges(program, tale, slack=2):
    walk = whole_walk(program, tale)
    froms = tale[0]
    lines = dict(tale[1])
    found = hand_edges(walk, slack) + from_edges(walk.done, froms) + line_edges(lines)
    found = found + ahead_edges(walk.done, froms, lines) + own_edges(walk.done, froms)
    return sorted(found)


def hand_edges(walk, slack):
    found = []
    for one in walk.done:
        others = [other for other in walk.done if is_ahead(one, other) and keeps_order(walk, one, other, slack)]
        found.extend([(one, other, "hand") for other in others])
    return found


def is_ahead(one, other):
    return one[0] == other[0] and one[1] < other[1]


def keeps_order(walk, one, other, slack):
    first = walk.done[one]
    second = walk.done[other]
    if slack == 0 or first[0] != "put":
        return True
    if second[0] == "get":
        return is_stopped(walk.stops, one, other, ("fence",))
    if slack == 2 and second[0] == "put" and place_of(first) != place_of(second):
        return is_stopped(walk.stops, one, other, ("fence", "bar"))
    return True


def is_stopped(stops, one, other, words):
    return any([h == one[0] and one[1] < k <= other[1] and word in words for h, k, word in stops])


def from_edges(done, froms):
    return [(source, reader, "from") for reader, source in froms if is_told(done, reader, source)]


# A get may read a put of its own hand while that one still waits in the row: so it need not come behind it.
def is_told(done, reader, source):
    if source is None:
        return False
    return done[reader][0] == "swap" or not is_ahead(source, reader)


def line_edges(lines):
    found = []
    for line in lines.values():
        for at, one in enumerate(line):
            found.extend([(one, other, "line") for other in line[at + 1:]])
    return found


def ahead_edges(done, froms, lines):
    found = []
    for reader, source in froms:
        line = lines[place_of(done[reader])]
        start = 0 if source is None else line.index(source) + 1
        found.extend([(reader, other, "ahead") for other in line[start:] if other != reader])
    return found


def own_edges(done, froms):
    found = []
    for reader, source in froms:
        one = last_own(done, reader)
        if done[reader][0] == "get" and one is not None and one != source:
            found.append((one, reader, "own"))
    return found


def last_own(done, reader):
    place = place_of(done[reader])
    own = [one for one in done if is_ahead(one, reader) and is_write(done[one]) and place_of(done[one]) == place]
    return own[-1] if own != [] else None
