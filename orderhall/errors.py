"""The refusals: one class for each, all under OrderError and none under another."""


class OrderError(ValueError):
    pass


class TooMany(OrderError):
    pass


class NoThing(OrderError):
    pass


class Ring(OrderError):
    def __init__(self, things):
        OrderError.__init__(self, f"these things lie below one another in a ring: {things!r}")
        self.things = list(things)


class NoWay(OrderError):
    pass


class NoTwoRows(OrderError):
    def __init__(self, walk):
        OrderError.__init__(self, f"no two rows tell the order, as this walk shows: {walk!r}")
        self.walk = list(walk)


class NoLattice(OrderError):
    def __init__(self, word, one, other, nearest):
        OrderError.__init__(self, f"no one thing is {word} both {one} and {other}; the nearest are {nearest!r}")
        self.word = word
        self.one = one
        self.other = other
        self.nearest = list(nearest)


class NotSpreading(OrderError):
    def __init__(self, word, five):
        OrderError.__init__(self, f"the lattice holds a {word}: {five!r}")
        self.word = word
        self.five = list(five)
