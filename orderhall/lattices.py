"""Lattices: orders in which any two things have one thing over and one thing under both."""

from orderhall.bits import places_of, within
from orderhall.errors import NoLattice, NoThing
from orderhall.orders import covers_of, refuse_stranger, turned_over


# Whoever looks at all pairs reads the tables overs and unders straight, as the methods ask each time for strangers.
class Lattice:
    def __init__(self, downs, ups, overs, unders):
        self.downs = downs
        self.ups = ups
        self.overs = overs
        self.unders = unders

    def over(self, one, other):
        refuse_strangers(self, [one, other])
        return self.overs[one][other]

    def under(self, one, other):
        refuse_strangers(self, [one, other])
        return self.unders[one][other]

    def below(self, one, other):
        refuse_strangers(self, [one, other])
        return within(1 << one, self.downs[other])

    def bottom(self):
        return self.ups.index(everything_in(self))

    def top(self):
        return self.downs.index(everything_in(self))

    def order(self):
        return list(self.downs)


def refuse_strangers(lattice, things):
    for thing in things:
        refuse_stranger(thing, len(lattice.downs))


def everything_in(lattice):
    return (1 << len(lattice.downs)) - 1


def lattice_of(downs):
    if len(downs) == 0:
        raise NoThing("an order without things is no lattice")
    ups = turned_over(downs)
    overs = nearest_to_all("over", ups, downs)
    unders = nearest_to_all("under", downs, ups)
    return Lattice(list(downs), ups, overs, unders)


# A thing is over two others just where the things at or above it are those at or above both; likewise under.
# The table is the same both ways about, so the first two things found to have none are one less than other.
def nearest_to_all(word, sets, turned):
    holders = dict([(bits, thing) for thing, bits in enumerate(sets)])
    table = []
    for one, bits in enumerate(sets):
        shared = [bits & others for others in sets]
        for other, both in enumerate(shared):
            if both not in holders:
                raise NoLattice(word, one, other, nearest_in(both, turned))
        table.append([holders[both] for both in shared])
    return table


def nearest_in(both, turned):
    return [thing for thing in places_of(both) if turned[thing] & both == 1 << thing]


def low_parts(lattice):
    return met_once([high for low, high in covers_of(lattice.downs)])


def high_parts(lattice):
    return met_once([low for low, high in covers_of(lattice.downs)])


def met_once(things):
    return [thing for thing in sorted(things) if things.count(thing) == 1]


def all_over(lattice, things):
    reached = lattice.bottom()
    for thing in things:
        reached = lattice.over(reached, thing)
    return reached


def all_under(lattice, things):
    reached = lattice.top()
    for thing in things:
        reached = lattice.under(reached, thing)
    return reached
