"""The judge: of a whole tale either an order of its points or a ring of edges, by a slack."""

from latewrite.rules import edges
from latewrite.tales import points_of


def judged(program, tale, slack=2):
    rest = points_of(program, tale)
    kept = edges(program, tale, slack)
    order = []
    while rest != []:
        led = dict([(other, True) for one, other, word in kept])
        free = [point for point in rest if point not in led]
        if free == []:
            return ("ring", ring_in(kept))
        order.extend(free)
        rest = [point for point in rest if point in led]
        kept = [edge for edge in kept if edge[0] in led]
    return ("order", order)


# An edge leads to each point of these edges. So from any of them one goes back along edges without an end, and comes
# to some point again: from there on it is a ring, told the other way round.
def ring_in(kept):
    into = dict([(other, (one, word)) for one, other, word in kept])
    back = []
    point = kept[0][0]
    while point not in back:
        back.append(point)
        point = into[point][0]
    return [into[other] for other in reversed(back[back.index(point):])]
