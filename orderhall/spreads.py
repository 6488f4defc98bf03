"""Spreading lattices as the downsets of an order, and the five things that show a lattice is none."""

from orderhall.bits import places_of
from orderhall.errors import NotSpreading
from orderhall.lattices import low_parts
from orderhall.orders import numbers_within, order_within, part_of, refuse_more
from orderhall.ways import downsets_of

MOST_DOWNSETS = 128


def five_of(lattice):
    ladder = first_ladder(lattice)
    if ladder is not None:
        return ("ladder", ladder)
    fan = first_fan(lattice)
    if fan is not None:
        return ("fan", fan)
    return None


def first_ladder(lattice):
    overs = lattice.overs
    unders = lattice.unders
    for b, up in enumerate(lattice.ups):
        for c in places_of(up ^ (1 << b)):
            for d in range(len(overs)):
                if overs[b][d] == overs[c][d] and unders[b][d] == unders[c][d]:
                    return [unders[b][d], b, c, d, overs[b][d]]
    return None


def first_fan(lattice):
    many = len(lattice.overs)
    for b in range(many):
        for c in range(b + 1, many):
            for d in range(c + 1, many):
                if alike_in(lattice.overs, b, c, d) and alike_in(lattice.unders, b, c, d):
                    return [lattice.unders[b][c], b, c, d, lattice.overs[b][c]]
    return None


def alike_in(table, b, c, d):
    return table[b][c] == table[b][d] and table[b][c] == table[c][d]


def downset_order(downs):
    downsets = downsets_of(downs)
    refuse_more(len(downsets), MOST_DOWNSETS)
    return order_within(downsets)


def spread_of(lattice):
    found = five_of(lattice)
    if found is not None:
        raise NotSpreading(found[0], found[1])
    downs = lattice.order()
    parts = low_parts(lattice)
    return (parts, part_of(downs, parts), [numbers_within(parts, down) for down in downs])
