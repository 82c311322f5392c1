"""Growth: all tales that the orders of a small program tell, found without a machine."""

from latewrite.errors import NoOrder
from latewrite.orders import tale_by
from latewrite.programs import points, refuse_great
from latewrite.tales import kept_key


def orders(program, slack=2):
    refuse_great(program)
    found = {}
    for order in lists_of(points(program)):
        try:
            tale = tale_by(program, order, slack)
        except NoOrder:
            continue
        found[kept_key(tale)] = (tale, order)
    return list(found.values())


# With those that lack some of the points, too: what is passed over stands in no order.
def lists_of(things):
    found = []
    longest = [[]]
    while longest != []:
        found.extend(longest)
        longest = grown(longest, things)
    return found


def grown(parts, things):
    found = []
    for part in parts:
        found.extend([part + [one] for one in things if one not in part])
    return found
