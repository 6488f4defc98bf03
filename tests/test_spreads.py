"""Points 1, 5 and 33 to 35: ladders and fans, orders of downsets, and lattices as downsets of an order."""

import copy
import itertools
import random
import unittest

from helper import (HandedInAndTold, OrderCase, all_beside, all_orders, at_or_below, bounded, by_inclusion, chain,
                    diamond, downsets_plainly, fan, grown_orders, is_lattice_plainly, ladder, lies_below,
                    over_plainly, renamed, shuffled, small_lattices, some_lattices, some_orders, spoil,
                    under_plainly)
from orderhall.bits import places_of
from orderhall.errors import NotSpreading, TooMany
from orderhall.lattices import lattice_of, low_parts
from orderhall.looks import Spreading, looks_kept
from orderhall.orders import is_order, order_of, part_of, turned_over
from orderhall.spreads import downset_order, five_of, spread_of
from orderhall.ways import downsets_of


def five_plainly(downs):
    """Point 33, word by word."""
    things = range(len(downs))
    pairs = list(itertools.product(things, repeat=2))
    over = {pair: over_plainly(downs, *pair) for pair in pairs}
    under = {pair: under_plainly(downs, *pair) for pair in pairs}
    for b, c, d in itertools.product(things, repeat=3):
        if lies_below(downs, b, c) and over[b, d] == over[c, d] and under[b, d] == under[c, d]:
            return ("ladder", [under[b, d], b, c, d, over[b, d]])
    for b, c, d in itertools.combinations(things, 3):
        if over[b, c] == over[b, d] == over[c, d] and under[b, c] == under[b, d] == under[c, d]:
            return ("fan", [under[b, c], b, c, d, over[b, c]])
    return None


def middling_orders():
    """Orders of at most ten things with at most 128 downsets."""
    told = [chain(10), turned_over(chain(10)), all_beside(7), bounded(all_beside(6)), four_chains()]
    return told + [downs for downs in some_orders([2, 3, 5, 8, 9, 10]) if len(downsets_plainly(downs)) <= 128]


def four_chains():
    """Ten things in chains of three, three, three and one: 4 * 4 * 4 * 2 downsets."""
    return order_of(10, [(0, 1), (1, 2), (3, 4), (4, 5), (6, 7), (7, 8)])


class Fives(OrderCase):
    def test_none(self):
        for downs in [[1], chain(2), chain(128), diamond(), by_inclusion(range(128)), bounded(diamond())]:
            self.assertIsNone(five_of(lattice_of(downs)))

    def test_the_ladder(self):
        self.assertEqual(five_of(lattice_of(ladder())), ("ladder", [0, 1, 2, 3, 4]))
        self.assertEqual(five_of(lattice_of(renamed(ladder(), [4, 3, 0, 2, 1]))), ("ladder", [4, 3, 0, 2, 1]))

    def test_fans(self):
        for many in [3, 4, 126]:
            self.assertEqual(five_of(lattice_of(fan(many))), ("fan", [0, 1, 2, 3, many + 1]))
        self.assertEqual(five_of(lattice_of(renamed(fan(3), [2, 4, 0, 3, 1]))), ("fan", [2, 0, 3, 4, 1]))

    def test_kinds(self):
        for downs in [ladder(), fan(3)]:
            told = five_of(lattice_of(downs))
            self.assertEqual([type(part) for part in told], [str, list])
            self.assertEqual(len(told[1]), 5)

    def test_a_ladder_goes_ahead_of_a_fan(self):
        fan_then_ladder = order_of(9, [(0, 1), (0, 2), (0, 3), (1, 4), (2, 4), (3, 4), (4, 5), (5, 6), (4, 7), (6, 8),
                                       (7, 8)])
        self.assertEqual(five_of(lattice_of(fan_then_ladder)), ("ladder", [4, 5, 6, 7, 8]))

    def test_every_name_of_small_ones(self):
        for downs in [fan(3), ladder(), diamond()]:
            for names in itertools.permutations(range(len(downs))):
                order = renamed(downs, names)
                self.assertEqual(five_of(lattice_of(order)), five_plainly(order))

    def test_against_all_things(self):
        chance = random.Random(59)
        within = [shuffled(chance, bounded(downs)) for downs in [fan(3), ladder(), fan(5), bounded(fan(3))]]
        for downs in small_lattices() + some_lattices() + within:
            self.assertEqual(five_of(lattice_of(downs)), five_plainly(downs), downs)

    def test_none_just_where_spreading_breaks_nowhere(self):
        for downs in small_lattices() + some_lattices():
            lattice = lattice_of(downs)
            self.assertEqual(five_of(lattice) is None, Spreading().breaks(lattice) is None)

    def test_among_the_last_of_128(self):
        for downs, word in [(ladder(), "ladder"), (fan(3), "fan")]:
            high = chain(123) + [2 ** 123 - 1 + 2 ** 123 * down for down in downs]
            self.assertEqual(five_of(lattice_of(high)), (word, [123, 124, 125, 126, 127]))

    def test_asking_leaves_the_lattice(self):
        for downs in [ladder(), fan(3), diamond()]:
            lattice = lattice_of(downs)
            kept = copy.deepcopy(vars(lattice))
            told = five_of(lattice)
            spoil(told)
            self.assertEqual(vars(lattice), kept)
            self.assertEqual(five_of(lattice), five_plainly(downs))


class DownsetOrders(OrderCase):
    def test_edges(self):
        self.assertEqual(downset_order([]), [1])
        self.assertEqual(downset_order([1]), [1, 3])
        self.assertEqual(downset_order(chain(10)), chain(11))
        self.assertEqual(downset_order(turned_over(chain(10))), chain(11))
        self.assertEqual(downset_order(all_beside(7)), by_inclusion(range(128)))

    def test_ordinary(self):
        self.assertEqual(downset_order(diamond()), [1, 3, 7, 11, 31, 63])
        self.assertEqual(downset_order(all_beside(2)), diamond())

    def test_against_all_sets(self):
        for downs in all_orders(4) + grown_orders(5) + middling_orders():
            told = downset_order(downs)
            self.assertIs(type(told), list)
            self.assertEqual(told, by_inclusion(downsets_plainly(downs)))

    def test_it_is_always_a_spreading_lattice(self):
        for downs in all_orders(3) + grown_orders(4) + middling_orders():
            told = downset_order(downs)
            self.assertTrue(is_order(told))
            self.assertTrue(len(told) > 20 or is_lattice_plainly(told))
            self.assertIn("spreading", looks_kept(lattice_of(told)))

    def test_more_than_ten_things(self):
        for downs in [chain(11), all_beside(11), turned_over(chain(12)), chain(128), all_beside(128)]:
            self.refused(TooMany, downset_order, downs)

    def test_more_than_128_downsets(self):
        self.assertEqual(len(downset_order(all_beside(7))), 128)
        self.assertEqual(len(downset_order(four_chains())), 128)
        self.refused(TooMany, downset_order, all_beside(7) + [255])
        self.refused(TooMany, downset_order, [1] + [2 ** k + 1 for k in range(1, 8)])
        self.refused(TooMany, downset_order, all_beside(8))
        self.refused(TooMany, downset_order, all_beside(10))


class Spreads(OrderCase):
    def told(self, downs):
        """What is told, held against point 35 word by word."""
        lattice = lattice_of(downs)
        told = spread_of(lattice)
        self.assertIs(type(told), tuple)
        self.assertEqual([type(part) for part in told], [list, list, list])
        parts, order, forms = told
        self.assertEqual(parts, low_parts(lattice))
        self.assertEqual(order, part_of(downs, parts))
        for thing in range(len(downs)):
            below = [k for k in range(len(parts)) if at_or_below(downs, parts[k], thing)]
            self.assertEqual(places_of(forms[thing]), below)
        for one, other in itertools.product(range(len(downs)), repeat=2):
            self.assertEqual(forms[one] & forms[other] == forms[one], at_or_below(downs, one, other))
        if len(parts) <= 10:
            self.assertEqual(sorted(forms), downsets_of(order))
        return told

    def test_edges(self):
        self.assertEqual(self.told([1]), ([], [], [0]))
        self.assertEqual(self.told(chain(2)), ([1], [1], [0, 1]))
        self.assertEqual(self.told(chain(128)), (list(range(1, 128)), chain(127), [2 ** k - 1 for k in range(128)]))
        bits = [1, 2, 4, 8, 16, 32, 64]
        self.assertEqual(self.told(by_inclusion(range(128))), (bits, all_beside(7), list(range(128))))

    def test_ordinary(self):
        self.assertEqual(self.told(diamond()), ([1, 2], [1, 2], [0, 1, 2, 3]))
        self.assertEqual(self.told(turned_over(chain(3))), ([0, 1], [3, 2], [3, 2, 0]))

    def test_all_small_ones(self):
        kept = 0
        for downs in small_lattices() + some_lattices():
            if five_plainly(downs) is None:
                self.told(downs)
                kept += 1
        self.assertGreater(kept, 60)

    def test_under_other_names(self):
        chance = random.Random(61)
        for downs in [by_inclusion(range(32)), by_inclusion(downsets_plainly(four_chains())), chain(40)]:
            for time in range(3):
                self.told(shuffled(chance, downs))

    def test_it_leads_back_to_the_order(self):
        for downs in all_orders(3) + grown_orders(4) + grown_orders(5)[::5] + middling_orders():
            parts, order, forms = self.told(downset_order(downs))
            downsets = downsets_of(downs)
            tops = [[k for k in range(len(downs)) if downs[k] == downsets[part]] for part in parts]
            self.assertEqual(sorted(sum(tops, [])), list(range(len(downs))))
            self.assertEqual(order, part_of(downs, sum(tops, [])))

    def test_not_spreading(self):
        for downs in small_lattices() + some_lattices():
            five = five_plainly(downs)
            if five is not None:
                lattice = lattice_of(downs)
                with self.assertRaises(NotSpreading) as taken:
                    spread_of(lattice)
                self.assertIs(type(taken.exception), NotSpreading)
                self.assertEqual((taken.exception.word, taken.exception.five), five)
                self.assertEqual((taken.exception.word, taken.exception.five), five_of(lattice))

    def test_the_fields(self):
        for downs, word in [(ladder(), "ladder"), (fan(3), "fan"), (fan(126), "fan")]:
            lattice = lattice_of(downs)
            refusal = self.refused(NotSpreading, lambda: spread_of(lattice))
            self.assertEqual((refusal.word, refusal.five), (word, [0, 1, 2, 3, len(downs) - 1]))
            self.assertIs(type(refusal.five), list)
            spoil(refusal.five)
            self.assertEqual(self.refused(NotSpreading, lambda: spread_of(lattice)).five, five_of(lattice)[1])

    def test_asking_leaves_the_lattice(self):
        for downs in [[1], diamond(), chain(5)]:
            lattice = lattice_of(downs)
            kept = copy.deepcopy(vars(lattice))
            told = spread_of(lattice)
            again = copy.deepcopy(told)
            spoil(told)
            self.assertEqual(vars(lattice), kept)
            self.assertEqual(spread_of(lattice), again)


class SpreadsAreTheAskersOwn(HandedInAndTold, OrderCase):
    def asked(self):
        told = [(downset_order, (list(downs),)) for downs in [[], [1], diamond(), all_beside(7), chain(10)]]
        told += [(lambda downs: spread_of(lattice_of(downs)), (list(downs),)) for downs in [[1], diamond(), chain(9)]]
        return told + [(lambda downs: five_of(lattice_of(downs)), (list(downs),)) for downs in [ladder(), fan(3)]]


if __name__ == "__main__":
    unittest.main()
