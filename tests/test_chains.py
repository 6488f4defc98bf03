"""Points 1, 13 and 14: layers, chains and things side by side."""

import itertools
import random
import unittest

from helper import (HandedInAndTold, OrderCase, all_beside, all_orders, beside, chain, diamond, grown_orders,
                    lies_below, some_orders)
from orderhall.chains import chains_of, layers_of, longest_of, most_beside
from orderhall.orders import order_of, turned_over


def rows_within(things):
    """All rows of one or more of the things, ascending."""
    return [list(row) for many in range(1, len(things) + 1) for row in itertools.combinations(things, many)]


def is_chain(downs, row):
    return len(row) > 0 and all(lies_below(downs, low, high) for low, high in zip(row, row[1:]))


def chains_plainly(downs):
    """All chains, from below: rows of things any two of which lie one below the other, sorted by how many lie below."""
    found = [sorted(row, key=lambda thing: bin(downs[thing]).count("1")) for row in rows_within(range(len(downs)))]
    return [row for row in found if is_chain(downs, row)]


def fewest_chains(downs, things):
    """The fewest chains that part the things, by all possibilities."""
    if not things:
        return 0
    least = len(things)
    for row in chains_plainly(downs):
        if things[0] in row and set(row) <= set(things):
            least = min(least, 1 + fewest_chains(downs, [thing for thing in things if thing not in row]))
    return least


def all_side_by_side(downs, row):
    return all(beside(downs, one, other) for one, other in itertools.combinations(row, 2))


def most_beside_plainly(downs):
    return max([len(row) for row in rows_within(range(len(downs))) if all_side_by_side(downs, row)], default=0)


def grid(wide, high):
    """Pairs of numbers, one at or below another where both its numbers are."""
    places = list(itertools.product(range(wide), range(high)))
    return [sum(2 ** k for k, (a, b) in enumerate(places) if a <= c and b <= d) for c, d in places]


def two_layers(many):
    """Each of the upper half lies above all of the lower half but one."""
    half = many // 2
    return [2 ** k for k in range(half)] + [2 ** half - 1 - 2 ** k + 2 ** (k + half) for k in range(half)]


def large_orders():
    chance = random.Random(19)
    told = [grid(8, 16), grid(16, 8), grid(2, 64), two_layers(128), chain(128), all_beside(128)]
    for count in [10, 64, 128, 300, 1000]:
        row = chance.sample(range(128), 128)
        pairs = [tuple(row[place] for place in sorted(chance.sample(range(128), 2))) for number in range(count)]
        told.append(order_of(128, pairs))
    return told


class ChainCase(OrderCase):
    def layers_told(self, downs):
        layers = layers_of(downs)
        self.assertIs(type(layers), list)
        self.assertTrue(all(type(layer) is list for layer in layers))
        self.assertEqual(sorted(sum(layers, [])), list(range(len(downs))))
        for layer in layers:
            self.assertEqual(layer, sorted(layer))
            self.assertGreater(len(layer), 0)
        return layers

    def longest_told(self, downs):
        row = longest_of(downs)
        self.assertIs(type(row), list)
        self.assertTrue(is_chain(downs, row) or downs == [])
        self.assertEqual(len(row), len(layers_of(downs)))
        return row

    def chains_told(self, downs):
        chains = chains_of(downs)
        self.assertIs(type(chains), list)
        self.assertTrue(all(type(row) is list for row in chains))
        self.assertTrue(all(is_chain(downs, row) for row in chains), chains)
        self.assertEqual(sorted(sum(chains, [])), list(range(len(downs))))
        return chains

    def beside_told(self, downs):
        row = most_beside(downs)
        self.assertIs(type(row), list)
        self.assertEqual(row, sorted(set(row)))
        self.assertTrue(set(row) <= set(range(len(downs))))
        self.assertTrue(all_side_by_side(downs, row))
        self.assertEqual(len(row), len(chains_of(downs)))
        return row


class Layers(ChainCase):
    def test_no_things_and_one(self):
        self.assertEqual(layers_of([]), [])
        self.assertEqual(longest_of([]), [])
        self.assertEqual(layers_of([1]), [[0]])
        self.assertEqual(longest_of([1]), [0])

    def test_ordinary(self):
        self.assertEqual(layers_of(diamond()), [[0], [1, 2], [3]])
        self.assertIn(longest_of(diamond()), [[0, 1, 3], [0, 2, 3]])
        self.assertEqual(layers_of(order_of(5, [(4, 3), (3, 0), (1, 0)])), [[1, 2, 4], [3], [0]])
        self.assertEqual(longest_of(order_of(5, [(4, 3), (3, 0), (1, 0)])), [4, 3, 0])

    def test_as_low_as_can_be(self):
        self.assertEqual(layers_of(order_of(4, [(0, 1), (1, 2), (3, 2)])), [[0, 3], [1], [2]])
        self.assertEqual(layers_of(order_of(4, [(0, 1), (1, 2), (0, 3)])), [[0], [1, 3], [2]])

    def test_one_chain_and_all_beside(self):
        for many in [2, 10, 127, 128]:
            self.assertEqual(layers_of(chain(many)), [[k] for k in range(many)])
            self.assertEqual(longest_of(chain(many)), list(range(many)))
            self.assertEqual(layers_of(turned_over(chain(many))), [[k] for k in range(many - 1, -1, -1)])
            self.assertEqual(longest_of(turned_over(chain(many))), list(range(many - 1, -1, -1)))
            self.assertEqual(layers_of(all_beside(many)), [list(range(many))])
            self.assertEqual(len(self.longest_told(all_beside(many))), 1)

    def test_against_all_chains(self):
        for downs in all_orders(4) + grown_orders(5) + list(some_orders([2, 3, 5, 8, 10])):
            heights = [0] * len(downs)
            for row in chains_plainly(downs):
                heights[row[-1]] = max(heights[row[-1]], len(row))
            layers = self.layers_told(downs)
            self.assertEqual(len(layers), max(heights, default=0))
            for number, layer in enumerate(layers):
                self.assertEqual(layer, [k for k in range(len(downs)) if heights[k] == number + 1])
            self.longest_told(downs)

    def test_a_hundred_and_twenty_eight(self):
        for downs in large_orders():
            layers = self.layers_told(downs)
            self.longest_told(downs)
            under = []
            for layer in layers:
                self.assertTrue(all_side_by_side(downs, layer))
                for high in layer:
                    self.assertEqual(any(lies_below(downs, low, high) for low in under), under != [])
                under = layer
        self.assertEqual(len(layers_of(grid(8, 16))), 23)
        self.assertEqual(len(layers_of(two_layers(128))), 2)


class Chains(ChainCase):
    def test_no_things_and_one(self):
        self.assertEqual(chains_of([]), [])
        self.assertEqual(most_beside([]), [])
        self.assertEqual(chains_of([1]), [[0]])
        self.assertEqual(most_beside([1]), [0])

    def test_ordinary(self):
        self.assertEqual(len(self.chains_told(diamond())), 2)
        self.assertEqual(self.beside_told(diamond()), [1, 2])
        crossed = order_of(4, [(0, 2), (0, 3), (1, 3)])
        self.assertEqual(sorted(self.chains_told(crossed)), [[0, 2], [1, 3]])
        self.assertEqual(len(self.beside_told(crossed)), 2)

    def test_a_chain_may_pass_over_things(self):
        downs = order_of(5, [(0, 2), (1, 2), (2, 3), (2, 4)])
        self.assertEqual(len(self.chains_told(downs)), 2)
        self.assertIn(self.beside_told(downs), [[0, 1], [3, 4]])

    def test_one_chain_and_all_beside(self):
        for many in [2, 10, 127, 128]:
            self.assertEqual(chains_of(chain(many)), [list(range(many))])
            self.assertEqual(chains_of(turned_over(chain(many))), [list(range(many - 1, -1, -1))])
            self.assertEqual(len(self.beside_told(chain(many))), 1)
            self.assertEqual(sorted(chains_of(all_beside(many))), [[k] for k in range(many)])
            self.assertEqual(most_beside(all_beside(many)), list(range(many)))

    def test_against_all_possibilities(self):
        for downs in all_orders(4) + grown_orders(5) + list(some_orders([2, 3, 5, 6])):
            fewest = fewest_chains(downs, list(range(len(downs))))
            self.assertEqual(len(self.chains_told(downs)), fewest, downs)
            self.assertEqual(len(self.beside_told(downs)), most_beside_plainly(downs), downs)

    def test_some_more_against_all_rows(self):
        for downs in grown_orders(6)[::7] + list(some_orders([8, 9, 10])):
            self.chains_told(downs)
            self.assertEqual(len(self.beside_told(downs)), most_beside_plainly(downs), downs)

    def test_a_hundred_and_twenty_eight(self):
        for downs in large_orders():
            self.assertEqual(len(self.chains_told(downs)), len(self.beside_told(downs)))
        self.assertEqual(len(chains_of(grid(8, 16))), 8)
        self.assertEqual(len(chains_of(two_layers(128))), 64)
        self.assertEqual(len(chains_of(grid(2, 64))), 2)


class SomewhatBeyondTheBound(ChainCase):
    def test_it_is_not_refused(self):
        self.assertEqual(self.longest_told(chain(130)), list(range(130)))
        self.assertEqual(self.layers_told(all_beside(130)), [list(range(130))])
        self.assertEqual(self.chains_told(chain(130)), [list(range(130))])
        self.assertEqual(self.beside_told(all_beside(130)), list(range(130)))


class ChainsAreTheAskersOwn(HandedInAndTold, ChainCase):
    def asked(self):
        return [(function, (list(downs),)) for function in [layers_of, longest_of, chains_of, most_beside]
                for downs in [[], [1], diamond(), chain(128), all_beside(128), grid(3, 4)]]


if __name__ == "__main__":
    unittest.main()
