"""Ways to lay all things of an order in a row, each ahead of all that lie above it."""

from orderhall.bits import within
from orderhall.errors import NoWay
from orderhall.orders import refuse_more, refuse_stranger, with_all_below

MOST_LAID = 10


def downsets_of(downs):
    refuse_more(len(downs), MOST_LAID)
    return [bits for bits in range(1 << len(downs)) if with_all_below(downs, bits) == bits]


def ways_in(downs):
    return ways_behind(downs)[0]


# For each downset, in how many ways the things outside it can follow where those in it are laid.
def ways_behind(downs):
    downsets = downsets_of(downs)
    behind = {downsets[-1]: 1}
    for placed in reversed(downsets[:-1]):
        behind[placed] = sum([behind[placed | (1 << thing)] for thing in ready_behind(downs, placed)])
    return behind


def ready_behind(downs, placed):
    return [thing for thing, down in enumerate(downs) if down & ~placed == 1 << thing]


def way_at(downs, number):
    behind = ways_behind(downs)
    many = behind[0]
    if number < 0 or number >= many:
        raise NoWay(f"no way has the number {number}, there are {many}")
    row = []
    placed = 0
    beyond = number
    while len(row) < len(downs):
        ready = ready_behind(downs, placed)
        thing = ready.pop(0)
        while beyond >= behind[placed | (1 << thing)]:
            beyond -= behind[placed | (1 << thing)]
            thing = ready.pop(0)
        row.append(thing)
        placed |= 1 << thing
    return row


def number_of(downs, row):
    behind = ways_behind(downs)
    refuse_no_way(downs, row)
    number = 0
    placed = 0
    for thing in row:
        lesser = [other for other in ready_behind(downs, placed) if other < thing]
        number += sum([behind[placed | (1 << other)] for other in lesser])
        placed |= 1 << thing
    return number


def refuse_no_way(downs, row):
    if not is_way(downs, row):
        raise NoWay(f"{row!r} is not a way of the order")


def is_way(downs, row):
    placed = 0
    for thing in row:
        # Asked ahead of the shift, which would fail for a number below nought and not end for a great one.
        if thing not in ready_behind(downs, placed):
            return False
        placed |= 1 << thing
    return len(row) == len(downs)


def ways_ahead(downs, one, other):
    refuse_more(len(downs), MOST_LAID)
    refuse_stranger(one, len(downs))
    refuse_stranger(other, len(downs))
    if within(1 << other, downs[one]):
        return 0
    # Just the ways of the order in which one, with all below it, lies below other have one ahead of other.
    return ways_in([down | downs[one] if within(1 << other, down) else down for down in downs])


def steps_between(downs, one, other):
    refuse_more(len(downs), MOST_LAID)
    refuse_no_way(downs, one)
    refuse_no_way(downs, other)
    steps = [list(one)]
    while steps[-1] != other:
        steps.append(one_step(steps[-1], other))
    return steps


# Unlike rows of the same things always have such neighbours.
def one_step(row, other):
    place = 0
    while other.index(row[place]) < other.index(row[place + 1]):
        place += 1
    return row[:place] + [row[place + 1], row[place]] + row[place + 2:]
