"""The least table of a lattice, and the least lattice in which an order lies."""

from orderhall.lattices import high_parts, low_parts
from orderhall.orders import numbers_within, refuse_more, turned_over
from orderhall.rules import MOST_MARKS
from orderhall.tables import pair_order, pairs_of


def table_back(lattice):
    highs = high_parts(lattice)
    refuse_more(len(highs), MOST_MARKS)
    return ([numbers_within(highs, lattice.ups[low]) for low in low_parts(lattice)], len(highs))


def completed(downs):
    refuse_more(len(downs), MOST_MARKS)
    told = pairs_of(turned_over(downs), len(downs))
    numbers = dict([(pair[0], number) for number, pair in enumerate(told)])
    return (pair_order(told), [numbers[down] for down in downs])
