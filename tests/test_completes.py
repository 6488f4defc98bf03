"""Points 1, 5, 46 and 47: the least table of a lattice, and the least lattice in which an order lies."""

import copy
import itertools
import random
import unittest

from helper import (HandedInAndTold, OrderCase, all_beside, all_orders, at_or_below, by_inclusion, chain, diamond,
                    fan, grown_orders, is_lattice_plainly, ladder, shuffled, small_lattices, some_lattices,
                    some_orders, spoil)
from orderhall.completes import completed, table_back
from orderhall.errors import TooMany
from orderhall.lattices import all_over, all_under, high_parts, lattice_of, low_parts
from orderhall.orders import is_order, order_of, turned_over
from orderhall.tables import pair_order, pairs_of


def numbers_of(flags):
    return sum(2 ** number for number, is_in in enumerate(flags) if is_in)


def above_all(downs, bits):
    """The things at or above all of a set."""
    things = range(len(downs))
    return numbers_of([all(at_or_below(downs, low, k) for low in things if bits >> low & 1) for k in things])


def below_all(downs, bits):
    things = range(len(downs))
    return numbers_of([all(at_or_below(downs, k, high) for high in things if bits >> high & 1) for k in things])


def completed_plainly(downs):
    """Point 47, word by word: of all sets of things that are all those below all those above them."""
    sets = [bits for bits in range(2 ** len(downs)) if below_all(downs, above_all(downs, bits)) == bits]
    return (by_inclusion(sets), [sets.index(down) for down in downs])


def seven_thing_orders():
    chance = random.Random(127)
    grown = chance.sample([downs + [64 + bits] for downs in grown_orders(6)[::97] for bits in [0, 1, 63]
                           if is_order(downs + [64 + bits])], 40)
    return grown + [shuffled(chance, downs) for downs in grown] + [chain(7), all_beside(7), turned_over(chain(7))]


def without_two_rows():
    """Six things: each upper one above two of the three lower ones."""
    return order_of(6, [(0, 4), (0, 5), (1, 3), (1, 5), (2, 3), (2, 4)])


class TableBack(OrderCase):
    def told(self, downs):
        """What is told, held against point 46 word by word."""
        lattice = lattice_of(downs)
        told = table_back(lattice)
        self.assertEqual([type(part) for part in told], [list, int])
        self.assertIs(type(told), tuple)
        lows = low_parts(lattice)
        highs = high_parts(lattice)
        self.assertEqual(told[1], len(highs))
        self.assertEqual(told[0], [numbers_of([at_or_below(downs, low, high) for high in highs]) for low in lows])
        pairs = [(numbers_of([at_or_below(downs, low, x) for low in lows]),
                  numbers_of([at_or_below(downs, x, high) for high in highs])) for x in range(len(downs))]
        self.assertEqual(sorted(pairs), pairs_of(*told))
        order = pair_order(pairs_of(*told))
        places = [pairs_of(*told).index(pair) for pair in pairs]
        for low, high in itertools.product(range(len(downs)), repeat=2):
            self.assertEqual(at_or_below(order, places[low], places[high]), at_or_below(downs, low, high))
        return told

    def test_edges(self):
        self.assertEqual(self.told([1]), ([], 0))
        self.assertEqual(self.told(chain(2)), ([0], 1))
        self.assertEqual(self.told(by_inclusion(range(128))), ([63, 95, 111, 119, 123, 125, 126], 7))

    def test_ordinary(self):
        self.assertEqual(self.told(diamond()), ([1, 2], 2))
        self.assertEqual(self.told(fan(3)), ([1, 2, 4], 3))
        self.assertEqual(self.told(ladder()), ([3, 2, 4], 3))
        self.assertEqual(self.told(chain(3)), ([2, 0], 2))

    def test_all_small_ones(self):
        for downs in small_lattices():
            self.told(downs)

    def test_some_more(self):
        told = 0
        for downs in some_lattices(sets=5):
            if len(high_parts(lattice_of(downs))) <= 7:
                self.told(downs)
                told += 1
        self.assertGreater(told, 20)

    def test_many_low_parts(self):
        downs = by_inclusion([0] + [bits for bits in range(128) if bin(bits).count("1") >= 3])
        lattice = lattice_of(downs)
        self.assertEqual((len(low_parts(lattice)), len(high_parts(lattice))), (35, 7))
        self.told(downs)

    def test_seven_and_eight_high_parts(self):
        for downs in [fan(7), chain(8), turned_over(chain(8))]:
            self.assertEqual(self.told(downs)[1], 7)
        for downs in [fan(8), chain(9), turned_over(chain(9)), chain(128), fan(126)]:
            lattice = lattice_of(downs)
            self.refused(TooMany, lambda: table_back(lattice))

    def test_low_parts_are_not_counted(self):
        lattice = lattice_of(by_inclusion([0] + [bits for bits in range(16) if bin(bits).count("1") >= 2]))
        self.assertEqual(len(high_parts(lattice)), 4)
        self.assertEqual(len(low_parts(lattice)), 6)
        turned = lattice_of(turned_over(by_inclusion([0] + [b for b in range(32) if bin(b).count("1") >= 2])))
        self.assertEqual((len(low_parts(turned)), len(high_parts(turned))), (5, 10))
        self.refused(TooMany, lambda: table_back(turned))

    def test_no_fewer_things_and_no_fewer_marks(self):
        for downs in small_lattices(5):
            rows, many = self.told(downs)
            for left_out in range(len(rows)):
                self.assertLess(len(pairs_of(rows[:left_out] + rows[left_out + 1:], many)), len(downs))
            for left_out in range(many):
                low = 2 ** left_out - 1
                fewer = [row & low | row >> 1 & ~low for row in rows]
                self.assertLess(len(pairs_of(fewer, many - 1)), len(downs))

    def test_asking_leaves_the_lattice(self):
        for downs in [[1], diamond(), ladder()]:
            lattice = lattice_of(downs)
            kept = copy.deepcopy(vars(lattice))
            told = table_back(lattice)
            again = copy.deepcopy(told)
            spoil(told)
            self.assertEqual(vars(lattice), kept)
            self.assertEqual(table_back(lattice), again)


class Completed(OrderCase):
    def told(self, downs):
        """What is told, held against point 47 word by word."""
        told = completed(downs)
        self.assertIs(type(told), tuple)
        self.assertEqual([type(part) for part in told], [list, list])
        self.assertEqual(told, completed_plainly(downs))
        return told

    def fits(self, downs):
        """What point 47 says of the lattice."""
        order, where = self.told(downs)
        self.assertTrue(is_order(order))
        for low, high in itertools.product(range(len(downs)), repeat=2):
            self.assertEqual(at_or_below(order, where[low], where[high]), at_or_below(downs, low, high))
        lattice = lattice_of(order)
        for thing in range(len(order)):
            under = [where[k] for k in range(len(downs)) if at_or_below(order, where[k], thing)]
            over = [where[k] for k in range(len(downs)) if at_or_below(order, thing, where[k])]
            self.assertEqual((all_over(lattice, under), all_under(lattice, over)), (thing, thing))

    def test_edges(self):
        self.assertEqual(self.told([]), ([1], []))
        self.assertEqual(self.told([1]), ([1], [0]))
        self.assertEqual(self.told(chain(7)), (chain(7), list(range(7))))
        self.assertEqual(self.told(turned_over(chain(7))), (chain(7), list(range(6, -1, -1))))
        self.assertEqual(self.told(all_beside(7)), (fan(7), list(range(1, 8))))

    def test_ordinary(self):
        self.assertEqual(self.told([1, 2]), (diamond(), [1, 2]))
        self.assertEqual(self.told([1, 3, 5]), (diamond(), [0, 1, 2]))
        self.assertEqual(self.told(order_of(4, [(0, 2), (0, 3), (1, 2), (1, 3)])),
                         ([1, 3, 5, 15, 31, 47, 127], [1, 2, 4, 5]))
        self.assertEqual(len(self.told(without_two_rows())[0]), 8)

    def test_against_all_sets(self):
        for downs in all_orders(4) + grown_orders(5) + list(some_orders([2, 3, 5, 6, 7])):
            self.fits(downs)

    def test_seven_things(self):
        for downs in seven_thing_orders():
            self.fits(downs)

    def test_a_lattice_stays_as_it_is(self):
        for downs in small_lattices():
            order, where = self.told(downs)
            self.assertEqual(len(order), len(downs))
            self.assertEqual(sorted(where), list(range(len(downs))))
            for low, high in itertools.product(range(len(downs)), repeat=2):
                self.assertEqual(at_or_below(order, where[low], where[high]), at_or_below(downs, low, high))

    def test_no_lesser_lattice_holds_the_order(self):
        lattices = small_lattices(5)
        for downs in grown_orders(3) + [[1, 2], [1]]:
            least = len(self.told(downs)[0])
            for other in lattices:
                if len(other) < least:
                    for places in itertools.permutations(range(len(other)), len(downs)):
                        pairs = itertools.product(range(len(downs)), repeat=2)
                        self.assertFalse(all(at_or_below(other, places[a], places[b]) == at_or_below(downs, a, b)
                                             for a, b in pairs))

    def test_always_a_lattice(self):
        for downs in [[]] + all_orders(3) + grown_orders(5):
            self.assertTrue(is_lattice_plainly(self.told(downs)[0]))

    def test_more_than_seven_things(self):
        for downs in [chain(8), all_beside(8), turned_over(chain(9)), chain(11), chain(128), all_beside(128)]:
            self.refused(TooMany, completed, downs)


class CompletesAreTheAskersOwn(HandedInAndTold, OrderCase):
    def asked(self):
        told = [(completed, (list(downs),)) for downs in [[], [1], diamond(), all_beside(7), without_two_rows()]]
        return told + [(lambda downs: table_back(lattice_of(downs)), (list(downs),))
                       for downs in [[1], diamond(), fan(7), ladder()]]


if __name__ == "__main__":
    unittest.main()
