"""Gaps: where stops may be put into a program, and the program with some put in."""

from latewrite.deeds import place_of
from latewrite.errors import NoGap
from latewrite.programs import numbered, points


def gaps(program):
    return [point for point in points(program) if point[1] > 0]


def fenced(program, some):
    words = dict([((h, k), word) for h, k, word in some])
    known = gaps(program)
    if any([gap not in known for gap in words]):
        raise NoGap("a stop is of no gap")
    if len(words) != len(some):
        raise NoGap("two stops are of one gap")
    return [fenced_hand(h, hand, words) for h, hand in enumerate(program)]


def fenced_hand(h, hand, words):
    deeds = []
    for k, deed in numbered(hand):
        # A fence or bar that is there already bears the number of the point behind it, but only the point has a gap.
        if place_of(deed) is not None and (h, k) in words:
            deeds.append((words[(h, k)], None))
        deeds.append(deed)
    return deeds
