"""Looks at lattices: each asks one thing that a lattice keeps, or tells the first place where it breaks."""

from orderhall.bits import places_of


# The things of a tuple told are a, b and c; walked in this order, the first break found is the first of all tuples.
class Look:
    pass


class Balanced(Look):
    def named(self):
        return "balanced"

    def breaks(self, lattice):
        overs = lattice.overs
        unders = lattice.unders
        for a, up in enumerate(lattice.ups):
            for b in range(len(overs)):
                for c in places_of(up):
                    if overs[a][unders[b][c]] != unders[overs[a][b]][c]:
                        return (a, b, c)
        return None


class Spreading(Look):
    def named(self):
        return "spreading"

    def breaks(self, lattice):
        overs = lattice.overs
        unders = lattice.unders
        for a, under_a in enumerate(unders):
            for b in range(len(overs)):
                for c in range(len(overs)):
                    if under_a[overs[b][c]] != overs[under_a[b]][under_a[c]]:
                        return (a, b, c)
        return None


class Paired(Look):
    def named(self):
        return "paired"

    def breaks(self, lattice):
        for a in range(len(lattice.overs)):
            if len(partners_of(lattice, a)) == 0:
                return (a,)
        return None


class Single(Look):
    def named(self):
        return "single"

    def breaks(self, lattice):
        for a in range(len(lattice.overs)):
            partners = partners_of(lattice, a)
            if len(partners) > 1:
                return (a, partners[0], partners[1])
        return None


def partners_of(lattice, thing):
    ends = (lattice.top(), lattice.bottom())
    found = list(zip(lattice.overs[thing], lattice.unders[thing]))
    return [other for other, both in enumerate(found) if both == ends]


def all_looks():
    return [Balanced(), Spreading(), Paired(), Single()]


def looks_kept(lattice):
    return [look.named() for look in all_looks() if look.breaks(lattice) is None]
