"""Points 1, 5 and 21 to 26: rows that tell an order, pairs that force pairs, and two rows or a walk."""

import itertools
import random
import unittest

from helper import (HUGE, STRANGE, HandedInAndTold, OrderCase, all_beside, all_orders, beside, chain, diamond,
                    grown_orders, joined, lies_below, some_orders)
from orderhall.errors import NoThing, NoTwoRows, NoWay, TooMany
from orderhall.orders import is_order, order_of, part_of, turned_over
from orderhall.tworows import forced_by, forces, order_by, two_rows


def order_by_plainly(rows):
    """Point 21, word by word."""
    things = range(len(rows[0]))
    return [sum(2 ** low for low in things
                if low == high or all(row.index(low) < row.index(high) for row in rows)) for high in things]


def pairs_beside(downs):
    return [pair for pair in itertools.product(range(len(downs)), repeat=2) if beside(downs, *pair)]


def forces_plainly(downs, pair, other):
    """Point 22, word by word."""
    a, b = pair
    to_second = any(other == (a, c) for c in range(len(downs)) if joined(downs, b, c) and beside(downs, a, c))
    to_first = any(other == (c, b) for c in range(len(downs)) if joined(downs, a, c) and beside(downs, c, b))
    return to_second or to_first


def forced_plainly(downs, pair):
    reached = {pair}
    while True:
        further = {other for other in pairs_beside(downs) if other not in reached
                   and any(forces_plainly(downs, source, other) for source in reached)}
        if not further:
            return sorted(reached)
        reached |= further


def ways_laid(downs, laid=()):
    """All ways that begin with what is laid."""
    if len(laid) == len(downs):
        return [list(laid)]
    ready = [thing for thing in range(len(downs)) if thing not in laid
             and all(low in laid for low in range(len(downs)) if lies_below(downs, low, thing))]
    return [row for thing in ready for row in ways_laid(downs, laid + (thing,))]


def has_two_rows(downs):
    """Whether any two ways tell the order: then just the pairs that stand alike in both lie one below the other."""
    wanted = sum(lies_below(downs, *pair) for pair in itertools.permutations(range(len(downs)), 2))
    alike = []
    for row in ways_laid(downs):
        alike.append(sum(2 ** (low * len(row) + high) for low, high in itertools.combinations(row, 2)))
    return any(bin(one & other).count("1") == wanted for one in alike for other in alike)


def crown(many):
    """As many below as above, each of the upper ones above all lower ones but one."""
    return [2 ** k for k in range(many)] + [2 ** many - 1 - 2 ** k + 2 ** (k + many) for k in range(many)]


def fence(many):
    """Things that lie by turns below and above the next one."""
    return order_of(many, [(k + k % 2, k + 1 - k % 2) for k in range(many - 1)])


def some_rows(chance, count, many):
    return [chance.sample(range(many), many) for number in range(count)]


class OrderBy(OrderCase):
    def test_edges(self):
        self.assertEqual(order_by([[]]), [])
        self.assertEqual(order_by([[], [], []]), [])
        self.assertEqual(order_by([[0]]), [1])
        self.assertEqual(order_by([[0], [0]]), [1])

    def test_one_row_and_alike_rows(self):
        self.assertEqual(order_by([[0, 1, 2]]), [1, 3, 7])
        self.assertEqual(order_by([[2, 0, 1]]), [5, 7, 4])
        self.assertEqual(order_by([[2, 0, 1]] * 5), [5, 7, 4])
        self.assertEqual(order_by([list(range(128))]), chain(128))
        self.assertEqual(order_by([list(range(128))] * 128), chain(128))

    def test_two_and_more_rows(self):
        self.assertEqual(order_by([[0, 1, 2, 3], [0, 2, 1, 3]]), diamond())
        self.assertEqual(order_by([[0, 1, 2], [2, 1, 0]]), [1, 2, 4])
        self.assertEqual(order_by([[0, 1, 2], [0, 2, 1], [1, 0, 2]]), [1, 2, 5])
        self.assertEqual(order_by([list(range(128)), list(range(127, -1, -1))]), all_beside(128))

    def test_against_the_words(self):
        rows = [list(row) for row in itertools.permutations(range(3))]
        for many in [1, 2, 3]:
            for chosen in itertools.product(rows, repeat=many):
                self.assertEqual(order_by(list(chosen)), order_by_plainly(chosen))
        chance = random.Random(31)
        for many in [1, 4, 7, 20]:
            for count in [1, 2, 3, 6]:
                chosen = some_rows(chance, count, many)
                told = order_by(chosen)
                self.assertIs(type(told), list)
                self.assertEqual(told, order_by_plainly(chosen))
                self.assertIs(is_order(told), True)

    def test_a_hundred_and_twenty_eight(self):
        chance = random.Random(37)
        for count in [1, 2, 128]:
            chosen = some_rows(chance, count, 128)
            told = order_by(chosen)
            self.assertIs(is_order(told), True)
            places = [[row.index(thing) for thing in range(128)] for row in chosen]
            for low, high in chance.sample(list(itertools.permutations(range(128), 2)), 500):
                self.assertEqual(lies_below(told, low, high), all(place[low] < place[high] for place in places))

    def test_somewhat_beyond_the_bound_is_not_refused(self):
        self.assertEqual(order_by([list(range(130)), list(range(129, -1, -1))]), all_beside(130))

    def test_no_row(self):
        self.refused(NoWay, order_by, [])

    def test_rows_that_do_not_hold_each_number_once(self):
        wrong = [[0, 1], [0, 1, 1], [0, 1, 3], [1, 2, 3], [0, 1, 2, 3], [0, 1, 2, 2], [], [0, 0, 0], [2, 1], [3, 1, 0]]
        wrong += [row for strange in STRANGE for row in [[strange, 1, 2], [0, 1, strange], [0, 1, 2, strange]]]
        for row in wrong:
            self.refused(NoWay, order_by, [[0, 1, 2], row])
            self.refused(NoWay, order_by, [[2, 1, 0], [0, 1, 2], row, [0, 2, 1]])
            if sorted(row) != list(range(len(row))):
                self.refused(NoWay, order_by, [row])
                self.refused(NoWay, order_by, [row, list(row)])
            self.refused(NoWay, order_by, [row, [0, 1, 2]])
        for strange in STRANGE + [1]:
            self.refused(NoWay, order_by, [[strange]])
            self.refused(NoWay, order_by, [[], [strange]])
        self.refused(NoWay, order_by, [[], [0]])
        self.refused(NoWay, order_by, [[0], []])
        self.refused(NoWay, order_by, [list(range(127)) + [128]])
        self.refused(NoWay, order_by, [list(range(128)), list(range(127)) + [126]])


class Forces(OrderCase):
    def test_ordinary(self):
        downs = order_of(3, [(1, 2)])
        self.assertIs(forces(downs, (0, 1), (0, 2)), True)
        self.assertIs(forces(downs, (0, 2), (0, 1)), True)
        self.assertIs(forces(downs, (1, 0), (2, 0)), True)
        self.assertIs(forces(downs, (0, 1), (2, 0)), False)
        self.assertIs(forces(downs, (0, 1), (1, 0)), False)

    def test_not_itself(self):
        for downs in [all_beside(2), all_beside(32), crown(3), crown(16), fence(32), order_of(3, [(1, 2)])]:
            for pair in pairs_beside(downs):
                self.assertIs(forces(downs, pair, pair), False)
                self.assertIs(forces(downs, pair, pair[::-1]), False)

    def test_none_where_all_lie_side_by_side(self):
        for pair, other in itertools.product(pairs_beside(all_beside(4)), repeat=2):
            self.assertIs(forces(all_beside(4), pair, other), False)

    def test_all_pairs_against_the_words(self):
        for downs in all_orders(4)[::3] + grown_orders(5)[::4] + list(some_orders([2, 3, 5, 7])) + [crown(3), fence(6)]:
            pairs = pairs_beside(downs)
            for pair, other in itertools.product(pairs, repeat=2):
                self.assertIs(forces(downs, pair, other), forces_plainly(downs, pair, other), (downs, pair, other))

    def test_thirty_two_things(self):
        chance = random.Random(41)
        for downs in [crown(16), fence(32), order_by(some_rows(chance, 2, 32)), order_by(some_rows(chance, 4, 32))]:
            pairs = pairs_beside(downs)
            for time in range(300):
                pair = chance.choice(pairs)
                near = [other for other in pairs if other[0] == pair[0] or other[1] == pair[1]]
                for other in [chance.choice(pairs), chance.choice(near)]:
                    self.assertIs(forces(downs, pair, other), forces_plainly(downs, pair, other))


class ForcedBy(OrderCase):
    def test_ordinary(self):
        self.assertEqual(forced_by([1, 2], (1, 0)), [(1, 0)])
        self.assertEqual(forced_by(order_of(3, [(1, 2)]), (0, 2)), [(0, 1), (0, 2)])
        self.assertEqual(forced_by(order_of(3, [(1, 2)]), (2, 0)), [(1, 0), (2, 0)])
        self.assertEqual(forced_by(diamond(), (2, 1)), [(2, 1)])

    def test_all_pairs_of_a_crown(self):
        downs = crown(3)
        for pair in pairs_beside(downs):
            self.assertEqual(forced_by(downs, pair), pairs_beside(downs))

    def test_against_all_steps(self):
        for downs in all_orders(4)[::3] + grown_orders(5)[::6] + list(some_orders([2, 3, 5, 6])) + [fence(6)]:
            for pair in pairs_beside(downs):
                told = forced_by(downs, pair)
                self.assertIs(type(told), list)
                self.assertTrue(all(type(part) is tuple for part in told))
                self.assertEqual(told, forced_plainly(downs, pair))

    def test_thirty_two_things(self):
        self.assertEqual(forced_by(all_beside(32), (31, 0)), [(31, 0)])
        self.assertEqual(forced_by(crown(16), (0, 1)), pairs_beside(crown(16)))
        two_chains = order_of(32, [(k, k + 1) for k in range(31) if k != 15])
        wanted = list(itertools.product(range(16), range(16, 32)))
        self.assertEqual(forced_by(two_chains, (3, 20)), wanted)
        self.assertEqual(forced_by(two_chains, (20, 3)), sorted((b, a) for a, b in wanted))


class PairsRefused(OrderCase):
    def both_refuse(self, kind, downs, pair, good):
        self.refused(kind, forced_by, downs, pair)
        self.refused(kind, forces, downs, pair, good)
        self.refused(kind, forces, downs, good, pair)
        self.refused(kind, forces, downs, pair, pair)

    def test_strangers(self):
        for strange in STRANGE + [4, 5, -4, 128]:
            for pair in [(strange, 1), (1, strange), (strange, strange), (strange, -1)]:
                self.both_refuse(NoThing, diamond(), pair, (1, 2))
        for strange in STRANGE + [32, 33]:
            self.both_refuse(NoThing, all_beside(32), (strange, 0), (0, 31))
            self.both_refuse(NoThing, all_beside(32), (31, strange), (0, 31))

    def test_one_thing_or_one_below_the_other(self):
        for pair in [(0, 0), (1, 1), (3, 3), (0, 1), (1, 0), (0, 3), (3, 0), (2, 3), (3, 2)]:
            self.both_refuse(NoThing, diamond(), pair, (1, 2))
        for pair in itertools.product(range(3), repeat=2):
            self.both_refuse(NoThing, chain(3), pair, pair)
        self.both_refuse(NoThing, all_beside(32), (7, 7), (7, 8))

    def test_no_things_and_one(self):
        for pair in [(0, 0), (0, 1), (-1, 0), (HUGE, -HUGE)]:
            self.both_refuse(NoThing, [], pair, pair)
            self.both_refuse(NoThing, [1], pair, pair)

    def test_all_pairs_of_small_numbers(self):
        for downs in all_orders(3):
            for pair in itertools.product(range(-1, 5), repeat=2):
                if pair in pairs_beside(downs):
                    self.assertIn(pair, forced_by(downs, pair))
                else:
                    self.refused(NoThing, forced_by, downs, pair)

    def test_too_many_goes_first(self):
        for many in [33, 34, 64, 128]:
            for downs in [chain(many), all_beside(many)]:
                self.refused(TooMany, two_rows, downs)
                for pair in [(0, 1), (0, 0), (-1, 0), (0, HUGE), (many, many + 1)]:
                    self.both_refuse(TooMany, downs, pair, (0, 1))
        self.refused(TooMany, two_rows, crown(17))

    def test_thirty_two_are_not_too_many(self):
        self.assertIs(forces(all_beside(32), (0, 31), (31, 0)), False)
        self.assertEqual(forced_by(all_beside(32), (0, 31)), [(0, 31)])
        self.assertEqual(two_rows(chain(32)), (list(range(32)), list(range(32))))


class TwoRows(OrderCase):
    def rows_told(self, downs):
        told = two_rows(downs)
        self.assertIs(type(told), tuple)
        self.assertEqual([type(row) for row in told], [list, list])
        for row in told:
            self.assertEqual(sorted(row), list(range(len(downs))))
        self.assertEqual(order_by_plainly(told), downs)
        self.assertEqual(order_by(list(told)), downs)
        return told

    def walk_told(self, downs):
        walk = self.refused(NoTwoRows, two_rows, downs).walk
        self.assertIs(type(walk), list)
        self.assertTrue(all(type(pair) is tuple for pair in walk))
        self.assertGreaterEqual(len(walk), 2)
        self.assertEqual(len(set(walk)), len(walk))
        self.assertTrue(all(beside(downs, *pair) for pair in walk))
        self.assertEqual(walk[-1], walk[0][::-1])
        for pair, other in zip(walk, walk[1:]):
            self.assertTrue(forces_plainly(downs, pair, other), (pair, other))
        return walk

    def rows_or_walk(self, downs):
        """Whether rows are told. A walk proves that there are no rows, so what is told proves itself."""
        try:
            two_rows(downs)
        except NoTwoRows:
            self.walk_told(downs)
            return False
        self.rows_told(downs)
        return True

    def test_edges(self):
        self.assertEqual(two_rows([]), ([], []))
        self.assertEqual(two_rows([1]), ([0], [0]))
        self.assertEqual(sorted(two_rows([1, 2])), [[0, 1], [1, 0]])
        self.assertEqual(two_rows([3, 2]), ([1, 0], [1, 0]))

    def test_one_chain_and_all_beside(self):
        for many in [2, 3, 4, 10, 31, 32]:
            self.assertEqual(two_rows(chain(many)), (list(range(many)),) * 2)
            falling = list(range(many - 1, -1, -1))
            self.assertEqual(two_rows(turned_over(chain(many))), (falling, falling))
            one, other = self.rows_told(all_beside(many))
            self.assertEqual(one, other[::-1])

    def test_against_all_ways(self):
        for downs in all_orders(4) + grown_orders(5) + grown_orders(6)[::4] + list(some_orders([2, 3, 5, 6])):
            self.assertEqual(self.rows_or_walk(downs), has_two_rows(downs), downs)

    def test_the_least_orders_without_two_rows(self):
        found = [downs for downs in grown_orders(6) if not self.rows_or_walk(downs)]
        self.assertEqual(len(found), sum(not has_two_rows(downs) for downs in found))
        self.assertIn(crown(3), found)
        for downs in found:
            for left_out in range(6):
                self.rows_told(part_of(downs, [thing for thing in range(6) if thing != left_out]))

    def test_walks(self):
        for many in [3, 4, 8, 16]:
            self.walk_told(crown(many))
            self.walk_told(turned_over(crown(many)))
        chance = random.Random(43)
        for time in range(10):
            self.walk_told(part_of(crown(16), chance.sample(range(32), 32)))

    def test_a_crown_among_other_things(self):
        for many in [7, 20, 32]:
            beside_it = crown(3) + [2 ** k for k in range(6, many)]
            self.walk_told(beside_it)
            above_it = crown(3) + [2 ** (k + 1) - 1 for k in range(6, many)]
            self.walk_told(above_it)
            last = part_of(beside_it, list(range(many - 1, -1, -1)))
            self.walk_told(last)

    def test_orders_that_two_rows_told(self):
        chance = random.Random(47)
        for many in [5, 8, 12, 20, 32]:
            for time in range(12):
                self.rows_told(order_by(some_rows(chance, 2, many)))
        for many in range(2, 33):
            self.rows_told(fence(many))

    def test_orders_that_more_rows_told(self):
        chance = random.Random(53)
        told = [self.rows_or_walk(order_by(some_rows(chance, count, many)))
                for many in [6, 8, 10, 20, 32] for count in [3, 4] for time in range(8)]
        self.assertIn(False, told)
        for downs in some_orders([7, 9, 13, 20, 32]):
            self.rows_or_walk(downs)

    def test_many_groups_of_pairs(self):
        blocks = order_of(32, [(k, k + 1) for k in range(0, 32, 2)])
        self.rows_told(blocks)
        layers = order_of(32, [(low, high) for low in range(32) for high in range(32) if low // 4 < high // 4])
        self.rows_told(layers)
        trees = order_of(31, [((k - 1) // 2, k) for k in range(1, 31)])
        self.rows_told(trees)
        self.rows_told(turned_over(trees))


class TwoRowsAreTheAskersOwn(HandedInAndTold, OrderCase):
    def asked(self):
        return [
            (order_by, ([[0, 1, 2]],)), (order_by, ([[]],)), (order_by, ([[0, 1, 2], [2, 0, 1]],)),
            (forces, (diamond(), (1, 2), (2, 1))), (forced_by, (crown(3), (0, 1))), (forced_by, ([1, 2], (0, 1))),
            (two_rows, ([],)), (two_rows, ([1],)), (two_rows, (chain(3),)), (two_rows, (diamond(),)),
            (two_rows, (all_beside(32),)),
        ]

    def test_a_walk_is_the_askers_own(self):
        downs = crown(3)
        first = self.refused(NoTwoRows, two_rows, downs)
        kept = list(first.walk)
        first.walk.clear()
        self.assertEqual(self.refused(NoTwoRows, two_rows, downs).walk, kept)
        self.assertEqual(self.refused(NoTwoRows, two_rows, crown(3)).walk, kept)


if __name__ == "__main__":
    unittest.main()
