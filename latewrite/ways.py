"""Ways: all outcomes that the runs of a small program end with."""

from latewrite.runs import order_by
from latewrite.search import tales
from latewrite.tales import outcome_of


def outcomes(program, slack=2):
    ends = dict([(outcome_of(program, tale), moves) for tale, moves in tales(program, slack)])
    return [(outcome, ends[outcome], order_by(program, ends[outcome], slack)) for outcome in sorted(ends)]
