"""Sets of things as whole numbers: bit k is one where the thing k is in the set."""


def bits_of(row):
    bits = 0
    for place in row:
        bits |= 1 << place
    return bits


def places_of(bits):
    return [place for place in range(bits.bit_length()) if (bits >> place) & 1 == 1]


def many_in(bits):
    return len(places_of(bits))


def within(one, other):
    return one & other == one
