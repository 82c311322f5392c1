"""Search: all tales that the runs of a small program have."""

from latewrite.machines import Late, machine
from latewrite.programs import refuse_great
from latewrite.tales import kept_key


# Machines that have done all quiet deeds and have the same tale so far stand alike: so one of them is followed.
def tales(program, slack=2):
    refuse_great(program)
    found = []
    seen = {}
    rest = [quieted(machine(program, slack), [])]
    while rest != []:
        pair = rest.pop()
        one = pair[0]
        key = kept_key(one.tale())
        if key in seen:
            continue
        seen[key] = True
        if one.ended():
            found.append((one.tale(), pair[1]))
        rest.extend([gone_on(one, pair[1], move) for move in one.moves()])
    return found


def gone_on(one, moves, move):
    other = one.twin()
    other.do(move)
    return quieted(other, moves + [move])


# Does all quiet deeds that are due, and writes them to the moves.
def quieted(one, moves):
    for h in range(len(one.program)):
        while is_quiet(one, h):
            one.do(("do", h))
            moves.append(("do", h))
    return (one, moves)


# A deed that no other hand sees, and that hinders no move: so no tale is lost where it is done as soon as it can be.
def is_quiet(one, h):
    if not one.can_do(h):
        return False
    word = one.due(h)[1][0]
    return word in ("fence", "bar") or (word == "put" and isinstance(one, Late))
