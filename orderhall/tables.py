"""Tables of things and marks: their pairs, the rules that hold in them, and tables made of rules."""

from orderhall.bases import base_of
from orderhall.bits import bits_of, within
from orderhall.orders import order_within, refuse_more
from orderhall.rules import MOST_MARKS, closed_sets


def shared_by(rows, many, things):
    refuse_more(many, MOST_MARKS)
    return shared_in([row for thing, row in enumerate(rows) if within(1 << thing, things)], many)


def shared_in(sets, many):
    shared = (1 << many) - 1
    for bits in sets:
        shared &= bits
    return shared


def having(rows, marks):
    return bits_of([thing for thing, row in enumerate(rows) if within(marks, row)])


def pairs_of(rows, many):
    return sorted([(having(rows, marks), marks) for marks, filled in all_filled(rows, many) if filled == marks])


# Each set of marks with all the marks that the things which have it share: a rule that holds in the table.
def all_filled(rows, many):
    refuse_more(many, MOST_MARKS)
    return [(marks, shared_by(rows, many, having(rows, marks))) for marks in range(1 << many)]


def pair_order(told):
    return order_within([things for things, marks in told])


# Every rule that holds in the table follows from the one with the same need and the most to give.
def rules_of(rows, many):
    return base_of(all_filled(rows, many))


def table_of(many, rules):
    closed = closed_sets(many, rules)
    return [bits for bits in closed if shared_above(closed, many, bits) != bits]


# No other set holds the set of all marks, and all marks are what no sets share: so it is never a thing of the table.
def shared_above(closed, many, bits):
    return shared_in([other for other in closed if other != bits and within(bits, other)], many)
