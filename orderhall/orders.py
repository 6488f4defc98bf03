"""Orders as lists of sets: the k-th set holds k itself and all things that lie below k."""

from orderhall.bits import bits_of, many_in, places_of, within
from orderhall.errors import NoThing, Ring, TooMany

MOST_THINGS = 128


def order_of(many, pairs):
    refuse_more(many, MOST_THINGS)
    lows = lows_told(many, pairs)
    downs = [0 for thing in range(many)]
    placed = 0
    rest = list(range(many))
    while len(rest) > 0:
        ready = [thing for thing in rest if within(lows[thing], placed)]
        if len(ready) == 0:
            raise Ring(ring_among(lows, rest))
        for thing in ready:
            downs[thing] = with_all_below(downs, lows[thing]) | (1 << thing)
        placed |= bits_of(ready)
        rest = [thing for thing in rest if thing not in ready]
    return downs


def refuse_more(many, most):
    if many > most:
        raise TooMany(f"{many} are more than {most}, the most there may be")


def refuse_stranger(thing, many):
    # A number below nought would count a list's parts from its end.
    if thing < 0 or thing >= many:
        raise NoThing(f"{thing} is not one of {many} things")


def lows_told(many, pairs):
    lows = [0 for thing in range(many)]
    for low, high in pairs:
        refuse_stranger(low, many)
        refuse_stranger(high, many)
        lows[high] |= 1 << low
    return lows


def with_all_below(downs, bits):
    together = 0
    for thing in places_of(bits):
        together |= downs[thing]
    return together


# Each thing of the rest has one of the rest among its lows (else it were ready),
# so a walk down through them must come to a thing where it has been.
def ring_among(lows, rest):
    among = bits_of(rest)
    walk = []
    thing = rest[0]
    while thing not in walk:
        walk.append(thing)
        thing = places_of(lows[thing] & among)[0]
    return list(reversed(walk[walk.index(thing):]))


def is_order(downs):
    if len(downs) > MOST_THINGS:
        return False
    return all([is_down(downs, thing) for thing in range(len(downs))])


def is_down(downs, thing):
    down = downs[thing]
    # Asked first: the places of any other number may lie outside the list.
    if down < 0 or down >= 1 << len(downs):
        return False
    if not within(1 << thing, down):
        return False
    for low in places_of(down):
        if not within(downs[low], down):
            return False
        if low != thing and within(1 << thing, downs[low]):
            return False
    return True


def covers_of(downs):
    covers = []
    for low, up in enumerate(turned_over(downs)):
        for high in places_of(up):
            # The things from low up to high are just these two where no third is between.
            if many_in(up & downs[high]) == 2:
                covers.append((low, high))
    return covers


def turned_over(downs):
    ups = [0 for down in downs]
    for high, down in enumerate(downs):
        for low in places_of(down):
            ups[low] |= 1 << high
    return ups


def part_of(downs, things):
    for thing in things:
        refuse_stranger(thing, len(downs))
    return [numbers_within(things, downs[thing]) for thing in things]


def numbers_within(things, bits):
    return bits_of([number for number, thing in enumerate(things) if within(1 << thing, bits)])


# The order of unlike sets by which one is within which.
def order_within(sets):
    return [bits_of([number for number, low in enumerate(sets) if within(low, high)]) for high in sets]
