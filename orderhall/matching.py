"""Ties of numbers on the left to numbers on the right: as many at once as can be, and the ends that touch all."""

from orderhall.bits import bits_of, places_of


def matched(ties):
    taken = [None for tie in ties]
    for left in range(len(ties)):
        sources = rights_reached(ties, taken, [left])
        free = [right for right in sources if right not in taken]
        if len(free) > 0:
            hand_over(taken, sources, free[0])
    return taken


# A way goes from a left to any right that it may be tied to, and from a right only to the left that has taken it.
# Told is, for each right reached, the left that it was reached from.
def rights_reached(ties, taken, lefts):
    sources = {}
    seen = 0
    coming = list(lefts)
    while len(coming) > 0:
        left = coming.pop()
        for right in places_of(ties[left] & ~seen):
            sources[right] = left
            if right in taken:
                coming.append(taken.index(right))
        seen |= ties[left]
    return sources


# Each left on the way back gives up its right to the one before it, so that only the way's first left gains one.
def hand_over(taken, sources, right):
    gained = right
    while gained is not None:
        left = sources[gained]
        given_up = taken[left]
        taken[left] = gained
        gained = given_up


# What can be reached from the lefts without a right is touched on the right, all else on the left.
# A right reached is always taken (else one more could be), so each taken tie is touched at just one end.
def touched(ties):
    taken = matched(ties)
    sources = rights_reached(ties, taken, [left for left, right in enumerate(taken) if right is None])
    lefts = [left for left, right in enumerate(taken) if right is not None and right not in sources]
    return (bits_of(lefts), bits_of(list(sources)))
