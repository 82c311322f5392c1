"""Fences: what stops leave of the tales that slack 0 doesn't tell, and the fewest stops that leave none of them."""

from latewrite.gaps import fenced, gaps
from latewrite.judge import judged
from latewrite.orders import run_by
from latewrite.search import tales


def shows(program, some, slack=2):
    more = fenced(program, some)
    return left_of(more, late_tales(program, slack), slack)


# The late tales go first: they refuse a program whose gaps have too many parts.
def fewest(program, slack=2):
    late = late_tales(program, slack)
    rest = parts_of([(h, k, "fence") for h, k in gaps(program)])
    while left_of(fenced(program, rest[0]), late, slack) is not None:
        rest.pop(0)
    return rest[0]


def lightest(program, slack=2):
    stops = fewest(program, slack)
    for at in range(len(stops)):
        turned = stops[:at] + [stops[at][:2] + ("bar",)] + stops[at + 1:]
        if shows(program, turned, slack) is None:
            stops = turned
    return stops


# Pairs of a tale that slack 0 doesn't tell and a ring of it by slack 0.
def late_tales(program, slack):
    found = []
    for tale, moves in tales(program, slack):
        verdict = judged(program, tale, 0)
        if verdict[0] == "ring":
            found.append((tale, verdict[1]))
    return found


# A stop more never adds a tale, nor does it change an edge by slack 0: so it is enough to ask which of the late tales
# without these stops have an order with them, too.
def left_of(more, late, slack):
    for tale, ring in late:
        verdict = judged(more, tale, slack)
        if verdict[0] == "order":
            return (tale, run_by(more, verdict[1], slack), ring)
    return None


# All parts of a list, those of the fewest things first, and of as many things the least.
def parts_of(things):
    found = [[]]
    for thing in things:
        found = found + [part + [thing] for part in found]
    return sorted(found, key=lambda part: (len(part), part))
