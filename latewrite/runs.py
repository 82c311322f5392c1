"""Runs: lists of moves, walked from a new machine to its end."""

from latewrite.errors import NotEnded
from latewrite.machines import machine


def walked(program, moves, slack=2):
    one = machine(program, slack)
    for move in moves:
        one.do(move)
    refuse_unended(one)
    return one.tale()


def order_by(program, moves, slack=2):
    one = machine(program, slack)
    order = []
    for move in moves:
        one.do(move)
        order.extend([point for point in come(one) if point not in order])
    refuse_unended(one)
    return order


# A point has come to the places as soon as the tale has it: a move brings one there at most.
def come(one):
    tale = one.tale()
    found = [reader for reader, source in tale[0]]
    for place, line in tale[1]:
        found.extend(line)
    return sorted(set(found))


def refuse_unended(one):
    if not one.ended():
        raise NotEnded("the moves do not lead to the machine's end")
