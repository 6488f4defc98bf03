"""Rows that tell an order, and when two of them are enough."""

from orderhall.bits import many_in, places_of, within
from orderhall.errors import NoThing, NoTwoRows, NoWay
from orderhall.orders import refuse_more, refuse_stranger, turned_over

MOST_PAIRED = 32


def order_by(rows):
    if len(rows) == 0:
        raise NoWay("there is no row to tell an order")
    things = list(range(len(rows[0])))
    downs = [(1 << len(things)) - 1 for thing in things]
    for row in rows:
        if sorted(row) != things:
            raise NoWay(f"{row!r} does not hold each number below the first row's length once")
        downs = [down & ahead for down, ahead in zip(downs, aheads_in(row))]
    return downs


def aheads_in(row):
    aheads = [0 for thing in row]
    met = 0
    for thing in row:
        met |= 1 << thing
        aheads[thing] = met
    return aheads


def forces(downs, pair, other):
    sides = sides_of(downs)
    refuse_not_beside(sides, pair)
    refuse_not_beside(sides, other)
    return other in forced_next(sides, pair)


def sides_of(downs):
    refuse_more(len(downs), MOST_PAIRED)
    everything = (1 << len(downs)) - 1
    return [everything & ~(down | up) for down, up in zip(downs, turned_over(downs))]


def refuse_not_beside(sides, pair):
    one = pair[0]
    other = pair[1]
    refuse_stranger(one, len(sides))
    refuse_stranger(other, len(sides))
    if not within(1 << other, sides[one]):
        raise NoThing(f"{one} and {other} do not lie side by side")


# Unlike things that are not in one another's sides count here as one below the other.
def forced_next(sides, pair):
    one = pair[0]
    other = pair[1]
    others = sides[one] & ~sides[other] & ~(1 << other)
    ones = sides[other] & ~sides[one] & ~(1 << one)
    return [(one, thing) for thing in places_of(others)] + [(thing, other) for thing in places_of(ones)]


def forced_by(downs, pair):
    sides = sides_of(downs)
    refuse_not_beside(sides, pair)
    return sorted(forced_from(sides, pair))


# For each pair forced by steps, the pair that it was first reached from; None for the pair itself.
def forced_from(sides, pair):
    sources = {pair: None}
    coming = [pair]
    while len(coming) > 0:
        source = coming.pop(0)
        for forced in forced_next(sides, source):
            if forced not in sources:
                sources[forced] = source
                coming.append(forced)
    return sources


def two_rows(downs):
    sides = sides_of(downs)
    refuse_walk(sides)
    aheads = aheads_chosen(sides)
    first = [down | ahead for down, ahead in zip(downs, aheads)]
    second = [down | (side & ~ahead) for down, side, ahead in zip(downs, sides, aheads)]
    return (row_with(first), row_with(second))


# Each pair forces back what forces it, so pairs that force one another by steps make one group, and their
# turned pairs make one too: a group is asked but once, from any pair of it.
def refuse_walk(sides):
    asked = {}
    for one, side in enumerate(sides):
        for other in places_of(side):
            if (one, other) not in asked:
                sources = forced_from(sides, (one, other))
                if (other, one) in sources:
                    raise NoTwoRows(walk_to(sources, (other, one)))
                asked.update(sources)


def walk_to(sources, last):
    walk = [last]
    while sources[walk[-1]] is not None:
        walk.append(sources[walk[-1]])
    return list(reversed(walk))


# For each thing, those side by side with it that stand ahead of it in the first row. What is chosen is taken out
# of the sides, so that it counts for later choices: pairs chosen with no regard for one another could stand in
# a ring. Chosen like this they never do where no walk is (Golumbic's way to direct a graph).
def aheads_chosen(sides):
    aheads = [0 for side in sides]
    rest = list(sides)
    for one in range(len(sides)):
        while rest[one] != 0:
            chosen = sorted(forced_from(rest, (one, places_of(rest[one])[0])))
            for low, high in chosen:
                aheads[high] |= 1 << low
                rest[low] &= ~(1 << high)
                rest[high] &= ~(1 << low)
    return aheads


# The aheads hold each thing itself and all ahead of it, so they grow by one from thing to thing.
def row_with(aheads):
    return sorted(range(len(aheads)), key=lambda thing: many_in(aheads[thing]))
