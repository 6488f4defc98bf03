"""Chains of an order, and things side by side."""

from orderhall.bits import bits_of, places_of, within
from orderhall.matching import matched, touched
from orderhall.orders import turned_over


def layers_of(downs):
    layers = []
    placed = 0
    rest = list(range(len(downs)))
    while len(rest) > 0:
        layer = [thing for thing in rest if within(downs[thing], placed | (1 << thing))]
        layers.append(layer)
        placed |= bits_of(layer)
        rest = [thing for thing in rest if thing not in layer]
    return layers


# Below each thing lies one of the layer next below (else it were in a lower one itself),
# so a walk down from the top layer never fails.
def longest_of(downs):
    chain = []
    allowed = (1 << len(downs)) - 1
    for layer in reversed(layers_of(downs)):
        thing = places_of(bits_of(layer) & allowed)[0]
        chain.append(thing)
        allowed = downs[thing]
    return list(reversed(chain))


# Each tie of a thing to one above it joins two chains, so as many ties as can be leave as few chains as can be.
def chains_of(downs):
    followers = matched(highs_of(downs))
    firsts = [thing for thing in range(len(downs)) if thing not in followers]
    return [chain_from(followers, first) for first in firsts]


def highs_of(downs):
    return [up ^ (1 << thing) for thing, up in enumerate(turned_over(downs))]


def chain_from(followers, first):
    chain = [first]
    while followers[chain[-1]] is not None:
        chain.append(followers[chain[-1]])
    return chain


# Of two things one of which lies below the other, one end is touched; so any two that are not touched
# lie side by side. There are as many of these as chains, as the ends touched are as many as the ties taken.
def most_beside(downs):
    ends = touched(highs_of(downs))
    return [thing for thing in range(len(downs)) if not within(1 << thing, ends[0] | ends[1])]
