"""Programs: their points, the names in them, and which of them are small."""

from latewrite.deeds import cup_of, guard_of, is_read, is_write, number_of, place_of
from latewrite.errors import TooGreat

SMALL_HANDS = 4
SMALL_POINTS = 6
SMALL_DEEDS = 12


def point_deeds(hand):
    # Fences and bars are left out here, so that putting them in moves no point.
    return [deed for deed in hand if is_write(deed) or is_read(deed)]


# Of each deed the number of the hand's points ahead of it, whether they are done or not, and the deed.
def numbered(hand):
    pairs = []
    k = 0
    for deed in hand:
        pairs.append((k, deed))
        if place_of(deed) is not None:
            k += 1
    return pairs


def points(program):
    found = []
    for h, hand in enumerate(program):
        found.extend([(h, k) for k in range(len(point_deeds(hand)))])
    return found


def deed_at(program, point):
    h = point[0]
    k = point[1]
    # Python would count a number below nought from a list's end.
    if h < 0 or k < 0 or h >= len(program):
        return None
    deeds = point_deeds(program[h])
    return deeds[k] if k < len(deeds) else None


def number_at(program, source):
    # Where nothing has written, there is the 0 that all places begin with.
    return 0 if source is None else number_of(deed_at(program, source))


def places(program):
    named = []
    for hand in program:
        named.extend([place_of(deed) for deed in point_deeds(hand)])
    return sorted(set(named))


def cups(program, h):
    guards = [guard_of(deed) for deed in program[h]]
    asked = [guard[1] for guard in guards if guard is not None]
    filled = [cup_of(deed) for deed in program[h] if is_read(deed)]
    return sorted(set(asked + filled))


def is_small(program):
    if len(program) > SMALL_HANDS or len(points(program)) > SMALL_POINTS:
        return False
    return sum([len(hand) for hand in program]) <= SMALL_DEEDS


def refuse_great(program):
    if not is_small(program):
        raise TooGreat("the program is not small")
