"""Points 1, 5 and 15 to 20: downsets, and the ways to lay all things in a row."""

import itertools
import math
import random
import unittest

from helper import (HUGE, STRANGE, HandedInAndTold, OrderCase, all_beside, all_orders, chain, diamond,
                    downsets_plainly, grown_orders, lies_below, some_orders)
from orderhall.errors import NoThing, NoWay, TooMany
from orderhall.orders import order_of, turned_over
from orderhall.ways import downsets_of, number_of, steps_between, way_at, ways_ahead, ways_in


def is_way_plainly(downs, row):
    if sorted(row) != list(range(len(downs))):
        return False
    return not any(lies_below(downs, later, sooner) for sooner, later in itertools.combinations(row, 2))


def ways_plainly(downs):
    rows = itertools.permutations(range(len(downs)))
    return sorted(list(row) for row in rows if is_way_plainly(downs, row))


def steps_plainly(one, other):
    """Point 20, word by word."""
    steps = [list(one)]
    while True:
        row = list(steps[-1])
        wrong = [k for k in range(len(row) - 1) if other.index(row[k]) > other.index(row[k + 1])]
        if not wrong:
            return steps
        row[wrong[0]], row[wrong[0] + 1] = row[wrong[0] + 1], row[wrong[0]]
        steps.append(row)


def unlike_pairs(one, other):
    return sum(other.index(a) > other.index(b) for a, b in itertools.combinations(one, 2))


def two_rails():
    """Ten things in two chains of five, each thing of the second above the one beside it."""
    rungs = [(k, k + 5) for k in range(5)]
    return order_of(10, [(k, k + 1) for k in [0, 1, 2, 3, 5, 6, 7, 8]] + rungs)


def ten_thing_orders():
    """Orders of ten things with the number of their ways, told by other reckonings."""
    return [(chain(10), 1), (turned_over(chain(10)), 1), (all_beside(10), math.factorial(10)), (two_rails(), 42),
            (order_of(10, [(k, k + 1) for k in [0, 1, 2, 3, 5, 6, 7, 8]]), math.comb(10, 5)),
            (order_of(10, [(k, k + 1) for k in range(8)]), 10), (order_of(10, [(9, 0)]), math.factorial(10) // 2)]


class Downsets(OrderCase):
    def test_edges(self):
        self.assertEqual(downsets_of([]), [0])
        self.assertEqual(downsets_of([1]), [0, 1])
        self.assertEqual(downsets_of(chain(10)), [2 ** k - 1 for k in range(11)])
        self.assertEqual(downsets_of(turned_over(chain(10))), [1024 - 2 ** k for k in range(10, -1, -1)])
        self.assertEqual(downsets_of(all_beside(10)), list(range(1024)))

    def test_ordinary(self):
        self.assertEqual(downsets_of(diamond()), [0, 1, 3, 5, 7, 15])
        self.assertEqual(downsets_of([3, 2]), [0, 2, 3])

    def test_against_all_sets(self):
        for downs in all_orders(4) + grown_orders(5) + list(some_orders([2, 3, 5, 8, 10])):
            told = downsets_of(downs)
            self.assertIs(type(told), list)
            self.assertEqual(told, downsets_plainly(downs))


class Ways(OrderCase):
    def test_no_things_and_one(self):
        self.assertEqual(ways_in([]), 1)
        self.assertEqual(way_at([], 0), [])
        self.assertEqual(number_of([], []), 0)
        self.assertEqual(ways_in([1]), 1)
        self.assertEqual(way_at([1], 0), [0])
        self.assertEqual(number_of([1], [0]), 0)

    def test_ordinary(self):
        self.assertEqual(ways_in(diamond()), 2)
        self.assertEqual([way_at(diamond(), 0), way_at(diamond(), 1)], [[0, 1, 2, 3], [0, 2, 1, 3]])
        self.assertEqual(way_at([3, 2, 4], 0), [1, 0, 2])
        self.assertEqual(way_at([3, 2, 4], 1), [1, 2, 0])
        self.assertEqual(way_at([3, 2, 4], 2), [2, 1, 0])
        self.assertEqual(number_of([3, 2, 4], [2, 1, 0]), 2)

    def test_all_ways_in_their_order(self):
        for downs in all_orders(4) + grown_orders(5) + list(some_orders([2, 3, 5, 6])):
            wanted = ways_plainly(downs)
            self.assertEqual(ways_in(downs), len(wanted))
            told = [way_at(downs, number) for number in range(len(wanted))]
            self.assertEqual(told, wanted)
            self.assertTrue(all(type(row) is list for row in told))
            self.assertEqual([number_of(downs, row) for row in wanted], list(range(len(wanted))))

    def test_ten_things(self):
        chance = random.Random(23)
        for downs, many in ten_thing_orders():
            self.assertEqual(ways_in(downs), many)
            numbers = sorted({0, many - 1} | {chance.randrange(many) for time in range(20)})
            rows = [way_at(downs, number) for number in numbers]
            self.assertEqual(rows, sorted(rows))
            for number, row in zip(numbers, rows):
                self.assertTrue(is_way_plainly(downs, row))
                self.assertEqual(number_of(downs, row), number)
            self.refused(NoWay, way_at, downs, many)
        self.assertEqual(way_at(all_beside(10), 0), list(range(10)))
        self.assertEqual(way_at(all_beside(10), math.factorial(10) - 1), list(range(9, -1, -1)))
        for place, row in zip(range(1000), itertools.permutations(range(10))):
            self.assertEqual(way_at(all_beside(10), place), list(row))

    def test_numbers_that_no_way_has(self):
        for downs in [[], [1], diamond(), chain(10), all_beside(10), [3, 2, 4]]:
            many = ways_in(downs)
            for number in STRANGE + [many, many + 1, -many, -many - 1, 10 ** 30]:
                self.refused(NoWay, way_at, downs, number)

    def test_rows_that_are_no_ways(self):
        strangers = [row for strange in STRANGE for row in [[strange], [0, 1, 2, strange], [strange, 1, 2, 3]]]
        wrong = [[], [0], [0, 1, 2], [0, 1, 2, 2], [0, 1, 1, 3], [0, 1, 2, 3, 3], [0, 1, 2, 3, 4], [0, 1, 2, 4],
                 [1, 0, 2, 3], [0, 1, 3, 2], [3, 2, 1, 0], [0, 0, 1, 2, 3], [0] * 128, list(range(128))]
        for row in wrong + strangers:
            self.refused(NoWay, number_of, diamond(), row)
        for row in [[0], [-1], [HUGE], [0, 1]]:
            self.refused(NoWay, number_of, [], row)
        for row in [[], [1], [-1], [0, 0], [0, 1], [HUGE]]:
            self.refused(NoWay, number_of, [1], row)
        for row in [list(range(9)), list(range(11)), list(range(9)) + [8], list(range(9)) + [-1], list(range(1, 11))]:
            self.refused(NoWay, number_of, all_beside(10), row)
        self.refused(NoWay, number_of, chain(10), list(range(9, -1, -1)))

    def test_all_rows_of_small_numbers(self):
        for downs in all_orders(3):
            for row in itertools.product(range(-1, 4), repeat=3):
                if is_way_plainly(downs, row):
                    self.assertEqual(way_at(downs, number_of(downs, list(row))), list(row))
                else:
                    self.refused(NoWay, number_of, downs, list(row))


class WaysAhead(OrderCase):
    def test_edges(self):
        self.assertEqual(ways_ahead([1], 0, 0), 0)
        self.assertEqual(ways_ahead([1, 2], 0, 1), 1)
        self.assertEqual(ways_ahead([1, 3], 0, 1), 1)
        self.assertEqual(ways_ahead([1, 3], 1, 0), 0)
        self.assertEqual(ways_ahead([1, 3], 1, 1), 0)

    def test_against_all_ways(self):
        for downs in all_orders(4) + grown_orders(5)[::5] + list(some_orders([2, 3, 5, 6])):
            ways = ways_plainly(downs)
            for one, other in itertools.product(range(len(downs)), repeat=2):
                wanted = sum(row.index(one) < row.index(other) for row in ways)
                self.assertEqual(ways_ahead(downs, one, other), wanted, (downs, one, other))

    def test_ten_things(self):
        for downs, many in ten_thing_orders():
            for one, other in [(0, 9), (9, 0), (3, 4), (8, 2), (4, 5)]:
                self.assertEqual(ways_ahead(downs, one, other) + ways_ahead(downs, other, one), many)
            self.assertEqual([ways_ahead(downs, k, k) for k in range(10)], [0] * 10)
        self.assertEqual(ways_ahead(all_beside(10), 7, 2), math.factorial(10) // 2)
        self.assertEqual(ways_ahead(chain(10), 2, 7), 1)
        self.assertEqual(ways_ahead(chain(10), 7, 2), 0)
        split = order_of(10, [(k, k + 1) for k in [0, 1, 2, 3, 5, 6, 7, 8]])
        self.assertEqual(ways_ahead(split, 4, 5), 1)
        self.assertEqual(ways_ahead(split, 5, 4), 251)

    def test_no_thing(self):
        for strange in STRANGE + [4, 5, -4]:
            self.refused(NoThing, ways_ahead, diamond(), strange, 0)
            self.refused(NoThing, ways_ahead, diamond(), 0, strange)
            self.refused(NoThing, ways_ahead, diamond(), strange, strange)
        for strange in STRANGE + [10]:
            self.refused(NoThing, ways_ahead, chain(10), 9, strange)
        self.refused(NoThing, ways_ahead, [], 0, 0)


class StepsBetween(OrderCase):
    def steps_told(self, downs, one, other):
        steps = steps_between(downs, one, other)
        self.assertIs(type(steps), list)
        self.assertTrue(all(type(row) is list for row in steps))
        self.assertEqual(steps, steps_plainly(one, other))
        self.assertEqual((steps[0], steps[-1]), (one, other))
        self.assertEqual(len(steps), unlike_pairs(one, other) + 1)
        self.assertTrue(all(is_way_plainly(downs, row) for row in steps))
        return steps

    def test_edges(self):
        self.assertEqual(steps_between([], [], []), [[]])
        self.assertEqual(steps_between([1], [0], [0]), [[0]])
        self.assertEqual(steps_between([1, 2], [1, 0], [1, 0]), [[1, 0]])
        self.assertEqual(steps_between([1, 2], [1, 0], [0, 1]), [[1, 0], [0, 1]])

    def test_alike_ways(self):
        for downs in [[], [1], diamond(), chain(10), all_beside(10), two_rails()]:
            row = way_at(downs, ways_in(downs) - 1)
            self.assertEqual(steps_between(downs, row, list(row)), [row])
            self.assertEqual(steps_between(downs, row, row), [row])

    def test_the_first_neighbours_go_first(self):
        wanted = [[2, 1, 0], [1, 2, 0], [1, 0, 2], [0, 1, 2]]
        self.assertEqual(steps_between(all_beside(3), [2, 1, 0], [0, 1, 2]), wanted)
        wanted = [[1, 0, 3, 2], [0, 1, 3, 2], [0, 1, 2, 3]]
        self.assertEqual(steps_between(all_beside(4), [1, 0, 3, 2], [0, 1, 2, 3]), wanted)

    def test_all_pairs_of_ways(self):
        for downs in all_orders(3) + all_orders(4)[::9] + grown_orders(4):
            for one, other in itertools.product(ways_plainly(downs), repeat=2):
                self.steps_told(downs, one, other)

    def test_ten_things(self):
        chance = random.Random(29)
        self.assertEqual(len(self.steps_told(all_beside(10), list(range(10)), list(range(9, -1, -1)))), 46)
        for downs, many in ten_thing_orders():
            for time in range(5):
                self.steps_told(downs, way_at(downs, chance.randrange(many)), way_at(downs, chance.randrange(many)))

    def test_no_way(self):
        good = [0, 1, 2, 3]
        wrong = [[], [0, 1, 2], [0, 1, 2, 2], [0, 1, 2, 3, 3], [0, 1, 2, 3, 4], [1, 0, 2, 3], [0, 1, 3, 2]]
        wrong += [[0, 1, 2, strange] for strange in STRANGE] + [[strange] for strange in STRANGE]
        for row in wrong:
            self.refused(NoWay, steps_between, diamond(), row, good)
            self.refused(NoWay, steps_between, diamond(), good, row)
            self.refused(NoWay, steps_between, diamond(), row, list(row))
        self.refused(NoWay, steps_between, [], [0], [])
        self.refused(NoWay, steps_between, [], [], [-1])
        self.refused(NoWay, steps_between, all_beside(10), list(range(10)), list(range(9)))


class MoreThanTen(OrderCase):
    def test_eleven_are_too_many(self):
        for many in [11, 12, 32, 127, 128]:
            for downs in [chain(many), all_beside(many)]:
                row = list(range(many))
                self.refused(TooMany, downsets_of, downs)
                self.refused(TooMany, ways_in, downs)
                self.refused(TooMany, way_at, downs, 0)
                self.refused(TooMany, number_of, downs, row)
                self.refused(TooMany, ways_ahead, downs, 0, 1)
                self.refused(TooMany, ways_ahead, downs, 0, 0)
                self.refused(TooMany, steps_between, downs, row, list(row))

    def test_it_goes_ahead_of_the_other_refusals(self):
        for downs in [chain(11), all_beside(11), all_beside(128)]:
            for strange in STRANGE:
                self.refused(TooMany, way_at, downs, strange)
                self.refused(TooMany, number_of, downs, [strange])
                self.refused(TooMany, ways_ahead, downs, strange, 0)
                self.refused(TooMany, ways_ahead, downs, 0, strange)
                self.refused(TooMany, steps_between, downs, [strange], [strange])
            self.refused(TooMany, number_of, downs, [])
            self.refused(TooMany, steps_between, downs, [], list(range(10)))

    def test_ten_are_not(self):
        for downs in [chain(10), all_beside(10)]:
            row = list(range(10))
            self.assertEqual(downsets_of(downs)[0], 0)
            self.assertEqual(way_at(downs, 0), row)
            self.assertEqual(number_of(downs, row), 0)
            self.assertEqual(steps_between(downs, row, row), [row])
            self.assertEqual(ways_ahead(downs, 5, 5), 0)


class WaysAreTheAskersOwn(HandedInAndTold, OrderCase):
    def asked(self):
        row = [0, 1, 2, 3]
        return [
            (downsets_of, ([],)), (downsets_of, (diamond(),)), (downsets_of, (all_beside(10),)),
            (ways_in, (diamond(),)), (way_at, ([], 0)), (way_at, (diamond(), 1)), (number_of, (diamond(), list(row))),
            (ways_ahead, (diamond(), 1, 2)), (ways_ahead, (chain(3), 0, 2)),
            (steps_between, ([], [], [])), (steps_between, (diamond(), list(row), list(row))),
            (steps_between, (all_beside(4), [3, 1, 2, 0], list(row))),
        ]


if __name__ == "__main__":
    unittest.main()
