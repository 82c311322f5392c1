"""Tales: which of them are whole for a program, and what a whole one tells."""

from latewrite.deeds import cup_of, guard_of, holds, is_read, is_write, place_of
from latewrite.errors import NoTale
from latewrite.programs import cups, deed_at, number_at, numbered, places


# What the hands do by a tale: `done` has the deeds of the points that are done, by points in their order;
# `stops` the fences and bars that are done; `filled` each hand's cups behind all.
class Walk:
    def __init__(self):
        self.done = {}
        self.stops = []
        self.filled = []


def points_of(program, tale):
    return list(whole_walk(program, tale).done)


def stops_of(program, tale):
    return sorted(whole_walk(program, tale).stops)


def outcome_of(program, tale):
    walk = whole_walk(program, tale)
    return outcome_with(program, walk.filled, dict(tale[1]))


def whole_walk(program, tale):
    walk = walk_by(program, dict(tale[0]))
    if not froms_fit(walk.done, tale[0]):
        raise NoTale("the sources are not those of the gets and swaps that are done")
    if not lines_fit(program, walk.done, tale[1]):
        raise NoTale("the lines are not those of the puts and swaps that are done")
    return walk


def walk_by(program, sources):
    walk = Walk()
    for h, hand in enumerate(program):
        has = {}
        for k, deed in numbered(hand):
            if not holds(guard_of(deed), has):
                continue
            if place_of(deed) is None:
                walk.stops.append((h, k, deed[0]))
                continue
            walk.done[(h, k)] = deed
            if is_read(deed):
                has[cup_of(deed)] = number_read(program, sources, (h, k))
        walk.filled.append(has)
    return walk


# Whether the source is done at all can't be known yet here: its hand may come later.
def number_read(program, sources, reader):
    if reader not in sources:
        raise NoTale("a get or swap that is done has no source")
    source = sources[reader]
    if source is not None and not writes(program, source):
        raise NoTale("a source writes nothing")
    return number_at(program, source)


def writes(program, point):
    deed = deed_at(program, point)
    return deed is not None and is_write(deed)


def froms_fit(done, froms):
    if [reader for reader, source in froms] != [point for point in done if is_read(done[point])]:
        return False
    return all([source_fits(done, reader, source) for reader, source in froms])


def source_fits(done, reader, source):
    if source is None:
        return True
    return source != reader and source in writers_to(done, place_of(done[reader]))


def lines_fit(program, done, lines):
    if [place for place, line in lines] != places(program):
        return False
    return all([sorted(line) == writers_to(done, place) for place, line in lines])


def writers_to(done, place):
    return [point for point in done if is_write(done[point]) and place_of(done[point]) == place]


# A machine tells its outcome by this, too: filled has each hand's cups, lines the points by places.
def outcome_with(program, filled, lines):
    hands = [cups_with(program, h, has) for h, has in enumerate(filled)]
    ends = [(place, number_at(program, last_of(lines[place]))) for place in places(program)]
    return (tuple(hands), tuple(ends))


def cups_with(program, h, has):
    return tuple([(cup, has.get(cup, 0)) for cup in cups(program, h)])


def last_of(line):
    return line[-1] if line != [] else None


# A tale as a dict's key. Of one program the places are always the same: so they are left out.
def kept_key(tale):
    return (tuple(tale[0]), tuple([tuple(line) for place, line in tale[1]]))
