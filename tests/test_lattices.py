"""Points 1, 4, 5 and 27 to 30: lattices, their parts, and what is over and under all things of a row."""

import copy
import itertools
import random
import unittest

from helper import (HUGE, STRANGE, HandedInAndTold, OrderCase, all_beside, all_orders, at_or_below, by_inclusion,
                    bounded, chain, diamond, fan, grown_orders, is_lattice_plainly, ladder, lies_below, over_plainly,
                    renamed, shared_above, shared_below, shuffled, small_lattices, some_lattices, spoil,
                    under_plainly)
from orderhall.errors import NoLattice, NoThing
from orderhall.lattices import Lattice, all_over, all_under, high_parts, lattice_of, low_parts
from orderhall.orders import covers_of, order_of, turned_over


def first_fault(downs):
    """Point 28, word by word: the first case in which two things have none over or under both."""
    for one, other in itertools.combinations(range(len(downs)), 2):
        if over_plainly(downs, one, other) is None:
            both = shared_above(downs, one, other)
            return ("over", one, other, [x for x in both if not any(lies_below(downs, y, x) for y in both)])
    for one, other in itertools.combinations(range(len(downs)), 2):
        if under_plainly(downs, one, other) is None:
            both = shared_below(downs, one, other)
            return ("under", one, other, [x for x in both if not any(lies_below(downs, x, y) for y in both)])
    return None


def next_below(downs, high):
    under = [low for low in range(len(downs)) if lies_below(downs, low, high)]
    return [low for low in under if not any(lies_below(downs, low, third) for third in under)]


def over_all_plainly(downs, things):
    """Point 30: the least thing at or above all things of a row."""
    found = [x for x in range(len(downs)) if all(at_or_below(downs, thing, x) for thing in things)]
    return [x for x in found if all(at_or_below(downs, x, y) for y in found)]


def some_rows(chance, many):
    yield []
    yield list(range(many))
    for length in [1, 1, 2, 2, 3, 4, 7]:
        yield chance.choices(range(many), k=length)


def large_lattices():
    """Lattices of 128 things: a chain, all sets of seven marks, the widest fan, a grid, and these under other names."""
    grid = [sum(2 ** (16 * a + b) for a in range(c + 1) for b in range(d + 1)) for c in range(8) for d in range(16)]
    told = [chain(128), by_inclusion(range(128)), fan(126), grid]
    chance = random.Random(31)
    return told + [shuffled(chance, downs) for downs in told]


def all_told(lattice):
    """All that the methods of a lattice tell."""
    downs = lattice.order()
    pairs = list(itertools.product(range(len(downs)), repeat=2))
    return [downs, lattice.bottom(), lattice.top(), [lattice.over(*pair) for pair in pairs],
            [lattice.under(*pair) for pair in pairs], [lattice.below(*pair) for pair in pairs]]


class LatticeCase(OrderCase):
    def faulty(self, downs):
        refusal = self.refused(NoLattice, lattice_of, downs)
        self.assertIs(type(refusal.word), str)
        self.assertIs(type(refusal.nearest), list)
        return (refusal.word, refusal.one, refusal.other, refusal.nearest)


class Made(LatticeCase):
    def test_one_thing(self):
        lattice = lattice_of([1])
        self.assertIsInstance(lattice, Lattice)
        self.assertEqual(all_told(lattice), [[1], 0, 0, [0], [0], [True]])

    def test_ordinary(self):
        lattice = lattice_of(diamond())
        self.assertEqual((lattice.over(1, 2), lattice.under(1, 2)), (3, 0))
        self.assertEqual((lattice.over(0, 2), lattice.under(0, 2)), (2, 0))
        self.assertEqual((lattice.bottom(), lattice.top()), (0, 3))
        self.assertEqual((lattice.below(0, 3), lattice.below(3, 0), lattice.below(1, 2), lattice.below(2, 2)),
                         (True, False, False, True))

    def test_kinds(self):
        lattice = lattice_of(diamond())
        for told in [lattice.over(1, 2), lattice.under(1, 2), lattice.bottom(), lattice.top()]:
            self.assertIs(type(told), int)
        self.assertIs(type(lattice.below(0, 1)), bool)
        self.assertIs(type(lattice.below(1, 0)), bool)
        self.assertIs(type(lattice.order()), list)

    def told_plainly(self, downs):
        pairs = list(itertools.product(range(len(downs)), repeat=2))
        bottoms = [k for k in range(len(downs)) if all(at_or_below(downs, k, other) for other in range(len(downs)))]
        tops = [k for k in range(len(downs)) if all(at_or_below(downs, other, k) for other in range(len(downs)))]
        self.assertEqual((len(bottoms), len(tops)), (1, 1))
        return [downs, bottoms[0], tops[0], [over_plainly(downs, *pair) for pair in pairs],
                [under_plainly(downs, *pair) for pair in pairs], [at_or_below(downs, *pair) for pair in pairs]]

    def test_against_all_things(self):
        for downs in small_lattices() + some_lattices():
            self.assertEqual(all_told(lattice_of(downs)), self.told_plainly(downs))

    def test_every_name_of_small_ones(self):
        for downs in [chain(3), diamond(), fan(3), ladder()]:
            for names in itertools.permutations(range(len(downs))):
                told = renamed(downs, names)
                self.assertEqual(all_told(lattice_of(told)), self.told_plainly(told))

    def test_a_hundred_and_twenty_eight(self):
        chance = random.Random(37)
        for downs in large_lattices():
            lattice = lattice_of(downs)
            self.assertEqual(lattice.order(), downs)
            self.assertEqual(downs[lattice.top()], 2 ** 128 - 1)
            self.assertEqual(downs[lattice.bottom()], 2 ** lattice.bottom())
            for count in range(40):
                pair = chance.choices(range(128), k=2)
                self.assertEqual(lattice.over(*pair), over_plainly(downs, *pair))
                self.assertEqual(lattice.under(*pair), under_plainly(downs, *pair))
                self.assertEqual(lattice.below(*pair), at_or_below(downs, *pair))

    def test_sets_of_marks(self):
        lattice = lattice_of(by_inclusion(range(128)))
        for one, other in itertools.product(range(128), repeat=2):
            self.assertEqual((lattice.over(one, other), lattice.under(one, other)), (one | other, one & other))

    def test_somewhat_beyond_the_bound(self):
        lattice = lattice_of(chain(130))
        self.assertEqual((lattice.top(), lattice.over(128, 129), lattice.under(128, 129)), (129, 129, 128))


class NotMade(LatticeCase):
    def test_no_things(self):
        self.refused(NoThing, lattice_of, [])

    def test_none_over(self):
        self.assertEqual(self.faulty([1, 2]), ("over", 0, 1, []))
        self.assertEqual(self.faulty([1, 3, 5]), ("over", 1, 2, []))
        self.assertEqual(self.faulty(all_beside(128)), ("over", 0, 1, []))

    def test_several_nearest_over(self):
        crossed = order_of(6, [(0, 1), (0, 2), (1, 3), (1, 4), (2, 3), (2, 4), (3, 5), (4, 5)])
        self.assertEqual(self.faulty(crossed), ("over", 1, 2, [3, 4]))
        lows_first = order_of(128, [(low, high) for low in [0, 1] for high in range(2, 128)])
        self.assertEqual(self.faulty(lows_first), ("over", 0, 1, list(range(2, 128))))

    def test_only_the_nearest_are_told(self):
        downs = order_of(7, [(0, 6), (1, 6), (0, 3), (1, 3), (6, 2), (3, 4), (2, 5), (4, 5)])
        self.assertEqual(self.faulty(downs), ("over", 0, 1, [3, 6]))

    def test_none_under(self):
        self.assertEqual(self.faulty([1, 2, 7]), ("under", 0, 1, []))
        self.assertEqual(self.faulty(turned_over(order_of(4, [(0, 1), (0, 2), (1, 3)]))), ("under", 1, 2, []))
        self.assertEqual(self.faulty(all_beside(127) + [2 ** 128 - 1]), ("under", 0, 1, []))

    def test_over_goes_ahead_of_under(self):
        self.assertEqual(self.faulty([1, 2, 7, 11]), ("over", 0, 1, [2, 3]))
        self.assertEqual(self.faulty(order_of(5, [(0, 2), (1, 2), (2, 3), (2, 4)])), ("over", 3, 4, []))

    def test_the_first_case_is_told(self):
        refused = 0
        chance = random.Random(41)
        grown = grown_orders(5) + chance.sample(grown_orders(6), 400)
        for downs in all_orders(4) + grown + [shuffled(chance, order) for order in grown]:
            fault = first_fault(downs)
            if fault is None:
                self.assertEqual(lattice_of(downs).order(), downs)
            else:
                self.assertEqual(self.faulty(downs), fault)
                refused += 1
        self.assertGreater(refused, 1000)

    def test_between_a_bottom_and_a_top(self):
        chance = random.Random(43)
        for downs in [shuffled(chance, bounded(order)) for order in grown_orders(5)]:
            fault = first_fault(downs)
            self.assertEqual(fault is None, is_lattice_plainly(downs))
            if fault is not None:
                self.assertEqual(self.faulty(downs), fault)
                self.assertEqual(fault[0], "over")
                self.assertGreater(len(fault[3]), 1)

    def test_the_same_question_has_the_same_answer(self):
        for downs in [[1, 2, 7], [1, 2, 7, 11], all_beside(128)]:
            first = self.refused(NoLattice, lattice_of, downs)
            kept = list(first.nearest)
            first.nearest.append(99)
            self.assertEqual(self.faulty(downs), (first.word, first.one, first.other, kept))


class Strangers(LatticeCase):
    def test_over_under_below(self):
        for downs in [[1], diamond(), ladder(), chain(128)]:
            lattice = lattice_of(downs)
            for strange in STRANGE + [len(downs), len(downs) + 1, 129, 10 ** 9]:
                for asked in [lattice.over, lattice.under, lattice.below]:
                    self.refused(NoThing, asked, strange, 0)
                    self.refused(NoThing, asked, 0, strange)
                    self.refused(NoThing, asked, len(downs) - 1, strange)
                    self.refused(NoThing, asked, strange, strange)

    def test_rows(self):
        for downs in [[1], diamond(), ladder(), chain(128)]:
            lattice = lattice_of(downs)
            last = len(downs) - 1
            for strange in STRANGE + [len(downs), len(downs) + 1, 129]:
                for asked in [all_over, all_under]:
                    for row in [[strange], [0, strange], [last, strange], [strange, 0, last], [0, last, strange, 0],
                                [0] * 127 + [strange]]:
                        with self.assertRaises(NoThing) as taken:
                            asked(lattice, row)
                        self.assertIs(type(taken.exception), NoThing)

    def test_a_refusal_leaves_the_lattice(self):
        lattice = lattice_of(ladder())
        kept = all_told(lattice)
        self.refused(NoThing, lattice.over, HUGE, 0)
        self.refused(NoThing, lattice.below, 0, -1)
        self.assertEqual(all_told(lattice), kept)


class Parts(LatticeCase):
    def test_edges(self):
        self.assertEqual((low_parts(lattice_of([1])), high_parts(lattice_of([1]))), ([], []))
        self.assertEqual(low_parts(lattice_of(chain(128))), list(range(1, 128)))
        self.assertEqual(high_parts(lattice_of(chain(128))), list(range(127)))
        self.assertEqual(low_parts(lattice_of(fan(126))), list(range(1, 127)))
        self.assertEqual(high_parts(lattice_of(fan(126))), list(range(1, 127)))
        self.assertEqual(low_parts(lattice_of(by_inclusion(range(128)))), [1, 2, 4, 8, 16, 32, 64])
        self.assertEqual(high_parts(lattice_of(by_inclusion(range(128)))), [63, 95, 111, 119, 123, 125, 126])

    def test_ordinary(self):
        self.assertEqual(low_parts(lattice_of(diamond())), [1, 2])
        self.assertEqual(low_parts(lattice_of(ladder())), [1, 2, 3])
        self.assertEqual(high_parts(lattice_of(ladder())), [1, 2, 3])
        self.assertEqual(low_parts(lattice_of(turned_over(chain(3)))), [0, 1])
        self.assertEqual(high_parts(lattice_of(turned_over(chain(3)))), [1, 2])
        self.assertEqual(low_parts(lattice_of(bounded(diamond()))), [1, 2, 3, 5])
        self.assertEqual(high_parts(lattice_of(bounded(diamond()))), [0, 2, 3, 4])

    def test_against_all_things(self):
        for downs in small_lattices() + some_lattices():
            lattice = lattice_of(downs)
            ups = turned_over(downs)
            lows = [k for k in range(len(downs)) if len(next_below(downs, k)) == 1]
            highs = [k for k in range(len(downs)) if len(next_below(ups, k)) == 1]
            self.assertEqual((low_parts(lattice), high_parts(lattice)), (lows, highs))

    def test_against_the_covers(self):
        for downs in large_lattices():
            covers = covers_of(downs)
            lows = [k for k in range(128) if [high for low, high in covers].count(k) == 1]
            self.assertEqual(low_parts(lattice_of(downs)), lows)
            self.assertEqual(high_parts(lattice_of(turned_over(downs))), lows)

    def test_each_thing_is_over_its_low_parts(self):
        for downs in some_lattices():
            lattice = lattice_of(downs)
            for thing in range(len(downs)):
                lows = [part for part in low_parts(lattice) if lattice.below(part, thing)]
                highs = [part for part in high_parts(lattice) if lattice.below(thing, part)]
                self.assertEqual((all_over(lattice, lows), all_under(lattice, highs)), (thing, thing))


class OverAndUnderAll(LatticeCase):
    def test_the_empty_row(self):
        for downs in [[1], diamond(), turned_over(diamond()), turned_over(chain(128)), ladder()]:
            lattice = lattice_of(downs)
            self.assertEqual(all_over(lattice, []), lattice.bottom())
            self.assertEqual(all_under(lattice, []), lattice.top())
        self.assertEqual(all_over(lattice_of(turned_over(chain(5))), []), 4)
        self.assertEqual(all_under(lattice_of(turned_over(chain(5))), []), 0)

    def test_ordinary(self):
        lattice = lattice_of(by_inclusion(range(8)))
        self.assertEqual((all_over(lattice, [1, 2]), all_over(lattice, [1, 2, 4]), all_over(lattice, [5])), (3, 7, 5))
        self.assertEqual([all_under(lattice, row) for row in [[3, 6], [3, 6, 5], [6]]], [2, 0, 6])
        self.assertIs(type(all_over(lattice, [1, 2])), int)
        self.assertIs(type(all_under(lattice, [1, 2])), int)

    def test_a_thing_several_times(self):
        lattice = lattice_of(by_inclusion(range(8)))
        self.assertEqual(all_over(lattice, [1, 1, 4, 1]), 5)
        self.assertEqual(all_under(lattice, [3, 6, 3, 3]), 2)
        self.assertEqual(all_over(lattice, [6] * 128), 6)
        self.assertEqual(all_under(lattice, [6] * 128), 6)

    def test_against_all_things(self):
        chance = random.Random(47)
        for downs in small_lattices() + some_lattices():
            lattice = lattice_of(downs)
            for row in some_rows(chance, len(downs)):
                self.assertEqual([all_over(lattice, row)], over_all_plainly(downs, row))
                self.assertEqual([all_under(lattice, row)], over_all_plainly(turned_over(downs), row))

    def test_a_row_of_all_128(self):
        for downs in large_lattices():
            lattice = lattice_of(downs)
            self.assertEqual(all_over(lattice, list(range(128))), lattice.top())
            self.assertEqual(all_under(lattice, list(range(128))), lattice.bottom())


class LatticesKeepToThemselves(LatticeCase):
    def test_the_order_handed_in(self):
        for downs in [[1], diamond(), ladder(), fan(4)]:
            handed_in = list(downs)
            lattice = lattice_of(handed_in)
            self.assertEqual(handed_in, downs)
            kept = all_told(lattice)
            spoil(handed_in)
            self.assertEqual(all_told(lattice), kept)

    def test_the_order_told(self):
        for downs in [[1], diamond(), ladder(), fan(4)]:
            lattice = lattice_of(downs)
            kept = all_told(lattice)
            parts = (low_parts(lattice), high_parts(lattice))
            spoil(lattice.order())
            self.assertEqual(all_told(lattice), kept)
            self.assertEqual((low_parts(lattice), high_parts(lattice)), parts)

    def test_asking_leaves_the_lattice(self):
        for downs in small_lattices(5):
            lattice = lattice_of(downs)
            kept = copy.deepcopy(vars(lattice))
            for asked in [low_parts, high_parts]:
                spoil(asked(lattice))
            row = list(range(len(downs)))
            for asked in [all_over, all_under]:
                asked(lattice, row)
            self.assertEqual(row, list(range(len(downs))))
            all_told(lattice)
            self.assertEqual(vars(lattice), kept)

    def test_two_lattices_of_one_order(self):
        downs = ladder()
        first = lattice_of(downs)
        second = lattice_of(downs)
        spoil(first.order())
        self.assertEqual(all_told(first), all_told(second))


class LatticesAreTheAskersOwn(HandedInAndTold, LatticeCase):
    def asked(self):
        told = [lambda downs: lattice_of(downs).order(), lambda downs: low_parts(lattice_of(downs)),
                lambda downs: high_parts(lattice_of(downs))]
        return [(function, (list(downs),)) for function in told
                for downs in [[1], diamond(), ladder(), fan(126), chain(128)]]


if __name__ == "__main__":
    unittest.main()
