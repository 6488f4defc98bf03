"""Points 1, 3, 5 and 7 to 10: orders, and what orderhall.orders tells of them."""

import itertools
import random
import unittest

from helper import (HUGE, STRANGE, HandedInAndTold, OrderCase, all_orders, diamond, is_order_plainly, lies_below,
                    some_orders, some_pairs)
from orderhall.errors import NoThing, Ring, TooMany
from orderhall.orders import covers_of, is_order, order_of, part_of, turned_over


def reached(many, pairs):
    """The pairs (low, high) joined by a way of one or more pairs, told step by step."""
    joined = set(pairs)
    while True:
        further = {(a, d) for a, b in joined for c, d in pairs if b == c} - joined
        if not further:
            return joined
        joined |= further


def order_by_ways(many, pairs):
    """The order as point 7 tells it, or None where some thing would lie below itself."""
    joined = reached(many, pairs)
    if any(low == high for low, high in joined):
        return None
    return [sum(2 ** low for low in range(many) if low == high or (low, high) in joined) for high in range(many)]


class RingCase(OrderCase):
    def ring_told(self, many, pairs):
        things = self.refused(Ring, order_of, many, pairs).things
        self.assertIs(type(things), list)
        self.assertGreaterEqual(len(things), 1)
        self.assertEqual(len(set(things)), len(things))
        for low, high in zip(things, things[1:] + things[:1]):
            self.assertIn((low, high), pairs)
        return things


class OrderOf(RingCase):
    def test_no_things_and_one(self):
        self.assertEqual(order_of(0, []), [])
        self.assertEqual(order_of(1, []), [1])

    def test_no_pairs(self):
        self.assertEqual(order_of(4, []), [1, 2, 4, 8])
        self.assertEqual(order_of(128, []), [2 ** k for k in range(128)])

    def test_ways_of_several_pairs(self):
        self.assertEqual(order_of(3, [(0, 1), (1, 2)]), [1, 3, 7])
        self.assertEqual(order_of(3, [(2, 1), (1, 0)]), [7, 6, 4])
        self.assertEqual(order_of(4, [(0, 1), (0, 2), (1, 3), (2, 3)]), [1, 3, 5, 15])
        self.assertEqual(order_of(4, [(3, 1), (3, 0)]), [9, 10, 4, 8])

    def test_a_pair_twice_and_one_that_follows(self):
        self.assertEqual(order_of(2, [(1, 0), (1, 0), (1, 0)]), [3, 2])
        self.assertEqual(order_of(3, [(0, 2), (0, 1), (1, 2), (0, 2)]), [1, 3, 7])

    def test_the_longest_chain(self):
        up = [(k, k + 1) for k in range(127)]
        self.assertEqual(order_of(128, up), [2 ** (k + 1) - 1 for k in range(128)])
        self.assertEqual(order_of(128, list(reversed(up))), [2 ** (k + 1) - 1 for k in range(128)])
        down = [(k + 1, k) for k in range(127)]
        self.assertEqual(order_of(128, down), [2 ** 128 - 2 ** k for k in range(128)])

    def test_five_thousand_pairs(self):
        nearest_first = sorted(itertools.combinations(range(128), 2), key=lambda pair: pair[1] - pair[0])
        pairs = nearest_first[:5000]
        self.assertEqual(order_of(128, pairs), [2 ** (k + 1) - 1 for k in range(128)])
        random.Random(1).shuffle(pairs)
        self.assertEqual(order_of(128, pairs), [2 ** (k + 1) - 1 for k in range(128)])
        two_layers = list(itertools.product(range(64), range(64, 128)))
        wanted = [2 ** k for k in range(64)] + [2 ** 64 - 1 + 2 ** k for k in range(64, 128)]
        self.assertEqual(order_of(128, two_layers + two_layers[:904]), wanted)
        self.assertEqual(order_of(2, [(0, 1)] * 5000), [1, 3])
        self.assertEqual(order_of(2, [(0, 1)] * 6000), [1, 3])

    def test_all_lists_of_pairs_of_three_things(self):
        every = list(itertools.product(range(3), repeat=2))
        for chosen in range(2 ** len(every)):
            self.same_as_by_ways(3, [pair for place, pair in enumerate(every) if chosen >> place & 1])

    def test_all_lists_of_pairs_of_four_unlike_things(self):
        every = list(itertools.permutations(range(4), 2))
        for chosen in range(2 ** len(every)):
            self.same_as_by_ways(4, [pair for place, pair in enumerate(every) if chosen >> place & 1])

    def test_larger_ones(self):
        chance = random.Random(3)
        for many in [6, 12, 24]:
            for count in [many // 2, many, 2 * many]:
                self.same_as_by_ways(many, some_pairs(chance, many, count))
                self.same_as_by_ways(many, [(chance.randrange(many), chance.randrange(many)) for k in range(count)])

    def same_as_by_ways(self, many, pairs):
        wanted = order_by_ways(many, pairs)
        if wanted is None:
            self.ring_told(many, pairs)
        else:
            self.assertEqual(order_of(many, pairs), wanted)


class OrderOfRefused(RingCase):
    def test_too_many(self):
        for many in [129, 130, 1000, 2 ** 128, HUGE]:
            self.refused(TooMany, order_of, many, [])
            self.refused(TooMany, order_of, many, [(0, 1)])

    def test_no_thing(self):
        for strange in STRANGE + [3, 4, 128]:
            self.refused(NoThing, order_of, 3, [(strange, 0)])
            self.refused(NoThing, order_of, 3, [(0, strange)])
            self.refused(NoThing, order_of, 3, [(0, 1), (1, 2), (strange, strange)])
        for strange in STRANGE + [128, 129]:
            self.refused(NoThing, order_of, 128, [(strange, 0)])
            self.refused(NoThing, order_of, 128, [(0, strange)])
        for pair in [(0, 0), (0, 1), (-1, 0)]:
            self.refused(NoThing, order_of, 0, [pair])
        self.refused(NoThing, order_of, 1, [(0, 1)])

    def test_ring_of_one(self):
        self.assertEqual(self.ring_told(1, [(0, 0)]), [0])
        self.assertEqual(self.ring_told(128, [(127, 127)]), [127])
        self.assertEqual(self.ring_told(5, [(0, 1), (1, 2), (2, 2), (2, 3)]), [2])

    def test_longer_rings(self):
        self.assertEqual(sorted(self.ring_told(2, [(0, 1), (1, 0)])), [0, 1])
        self.assertEqual(sorted(self.ring_told(4, [(3, 2), (1, 3), (2, 1), (0, 1)])), [1, 2, 3])
        for length in [3, 5, 127, 128]:
            pairs = [((k + 1) % length, k) for k in range(length)]
            self.assertEqual(sorted(self.ring_told(128, pairs)), list(range(length)))

    def test_ring_with_things_above_and_below_it(self):
        pairs = [(0, 1), (1, 2), (2, 3), (3, 1), (3, 4), (4, 5), (0, 5)]
        self.assertEqual(sorted(self.ring_told(6, pairs)), [1, 2, 3])
        shifted = [(127 - low, 127 - high) for low, high in pairs]
        self.assertEqual(sorted(self.ring_told(128, shifted)), [124, 125, 126])

    def test_several_rings(self):
        self.ring_told(6, [(0, 1), (1, 0), (2, 3), (3, 2), (4, 4), (1, 2), (3, 5)])
        self.ring_told(10, list(itertools.product(range(10), repeat=2)))

    def test_five_thousand_pairs_in_a_ring(self):
        pairs = list(itertools.permutations(range(100), 2))[:5000]
        self.ring_told(128, pairs)

    def test_the_first_told_goes_first(self):
        self.refused(TooMany, order_of, 129, [(0, 0)])
        self.refused(TooMany, order_of, 129, [(-1, 0), (200, 0), (0, 0)])
        self.refused(TooMany, order_of, HUGE, [(HUGE, -1)])
        self.refused(NoThing, order_of, 3, [(0, 0), (0, 3)])
        self.refused(NoThing, order_of, 3, [(0, 1), (1, 0), (-1, 2)])
        self.refused(NoThing, order_of, 128, [(128, 128)])
        self.refused(NoThing, order_of, 128, [(-1, -1)])


class IsOrder(OrderCase):
    def test_edges(self):
        self.assertIs(is_order([]), True)
        self.assertIs(is_order([1]), True)
        self.assertIs(is_order([2 ** k for k in range(128)]), True)
        self.assertIs(is_order([2 ** (k + 1) - 1 for k in range(128)]), True)
        self.assertIs(is_order([2 ** k for k in range(129)]), False)

    def test_numbers_that_are_no_sets_of_the_things(self):
        for strange in STRANGE + [0, 2, 3, 2 ** 128, 2 ** 128 + 1, 1 - 2 ** 128]:
            self.assertIs(is_order([strange]), False, strange)
        for strange in STRANGE + [5, 7, 2 ** 127 + 1, -7, 3 - 2 ** 130]:
            self.assertIs(is_order([strange, 2]), False, strange)
            self.assertIs(is_order([1, strange]), False, strange)
            self.assertIs(is_order([1, 2, strange | 4 | 2 ** 70]), False, strange)
        self.assertIs(is_order([2 ** k for k in range(127)] + [2 ** 127 + 2 ** 128]), False)
        self.assertIs(is_order([-1] * 128), False)
        self.assertIs(is_order([HUGE] * 128), False)

    def test_without_its_own_number(self):
        self.assertIs(is_order([0, 2]), False)
        self.assertIs(is_order([1, 1]), False)
        self.assertIs(is_order([2 ** k for k in range(127)] + [1]), False)

    def test_two_below_one_another(self):
        self.assertIs(is_order([3, 3]), False)
        self.assertIs(is_order([1, 6, 6]), False)
        self.assertIs(is_order([7, 7, 7]), False)

    def test_without_what_lies_below_a_thing_held(self):
        self.assertIs(is_order([1, 3, 6]), False)
        self.assertIs(is_order([3, 6, 4]), False)
        self.assertIs(is_order([3, 6, 5]), False)
        chain = [2 ** (k + 1) - 1 for k in range(128)]
        for missing in [0, 1, 64, 126]:
            self.assertIs(is_order(chain[:127] + [chain[127] - 2 ** missing]), missing == 126)

    def test_all_small_lists(self):
        for many, wanted in enumerate([1, 1, 3, 19]):
            counted = 0
            for downs in itertools.product(range(-1, 2 ** many + 2), repeat=many):
                told = is_order(list(downs))
                self.assertIs(told, is_order_plainly(downs))
                counted += told
            self.assertEqual(counted, wanted)

    def test_all_lists_of_four_sets(self):
        lists = itertools.product(range(16), repeat=4)
        self.assertEqual(sum(is_order(list(downs)) for downs in lists), 219)

    def test_what_order_of_tells_is_an_order(self):
        for downs in some_orders():
            self.assertIs(is_order(downs), True)


class CoversOf(OrderCase):
    def test_edges(self):
        self.assertEqual(covers_of([]), [])
        self.assertEqual(covers_of([1]), [])
        self.assertEqual(covers_of([2 ** k for k in range(128)]), [])
        self.assertEqual(covers_of([2 ** (k + 1) - 1 for k in range(128)]), [(k, k + 1) for k in range(127)])

    def test_ordinary(self):
        self.assertEqual(covers_of(order_of(3, [(0, 1), (1, 2), (0, 2)])), [(0, 1), (1, 2)])
        self.assertEqual(covers_of([1, 3, 5, 15]), [(0, 1), (0, 2), (1, 3), (2, 3)])
        self.assertEqual(covers_of([7, 6, 4]), [(1, 0), (2, 1)])

    def test_ascending_by_low_then_high(self):
        pairs = [(3, 2), (3, 0), (3, 1), (2, 4), (0, 4), (1, 5)]
        self.assertEqual(covers_of(order_of(6, pairs)), sorted(pairs))

    def test_against_the_words(self):
        for downs in all_orders(4) + list(some_orders()):
            things = range(len(downs))
            wanted = []
            for low, high in itertools.product(things, repeat=2):
                thirds = [k for k in things if lies_below(downs, low, k) and lies_below(downs, k, high)]
                if lies_below(downs, low, high) and not thirds:
                    wanted.append((low, high))
            told = covers_of(downs)
            self.assertEqual(told, wanted)
            self.assertTrue(all(type(pair) is tuple for pair in told))

    def test_the_fewest_pairs_that_make_the_order(self):
        for downs in all_orders(4) + list(some_orders()):
            covers = covers_of(downs)
            self.assertEqual(order_of(len(downs), covers), downs)
            for place in range(len(covers)):
                self.assertNotEqual(order_of(len(downs), covers[:place] + covers[place + 1:]), downs)


class TurnedOver(OrderCase):
    def test_edges(self):
        self.assertEqual(turned_over([]), [])
        self.assertEqual(turned_over([1]), [1])
        self.assertEqual(turned_over([1, 2, 4]), [1, 2, 4])

    def test_ordinary(self):
        self.assertEqual(turned_over([1, 3, 7]), [7, 6, 4])
        self.assertEqual(turned_over([1, 3, 5]), [7, 2, 4])
        chain = [2 ** (k + 1) - 1 for k in range(128)]
        self.assertEqual(turned_over(chain), [2 ** 128 - 2 ** k for k in range(128)])

    def test_against_the_words(self):
        for downs in all_orders(4) + list(some_orders()):
            told = turned_over(downs)
            self.assertIs(is_order(told), True)
            for low, high in itertools.product(range(len(downs)), repeat=2):
                self.assertEqual(lies_below(told, low, high), lies_below(downs, high, low))
            self.assertEqual(turned_over(told), downs)


class PartOf(OrderCase):
    def test_edges(self):
        self.assertEqual(part_of([], []), [])
        self.assertEqual(part_of([1, 3, 7], []), [])
        self.assertEqual(part_of([1, 3, 7], [2]), [1])
        chain = [2 ** (k + 1) - 1 for k in range(128)]
        self.assertEqual(part_of(chain, list(range(128))), chain)
        self.assertEqual(part_of(chain, list(range(127, -1, -1))), turned_over(chain))
        self.assertEqual(part_of(chain, [127, 0]), [3, 2])

    def test_the_row_gives_the_numbers(self):
        self.assertEqual(part_of([1, 3, 7], [0, 2]), [1, 3])
        self.assertEqual(part_of([1, 3, 7], [2, 0]), [3, 2])
        self.assertEqual(part_of([1, 3, 5, 15], [3, 1, 2]), [7, 2, 4])

    def test_all_rows_of_four_things(self):
        rows = [list(row) for length in range(5) for row in itertools.permutations(range(4), length)]
        for downs in all_orders(4):
            for row in rows:
                told = part_of(downs, row)
                wanted = [sum(2 ** j for j, low in enumerate(row) if downs[high] >> low & 1) for high in row]
                self.assertEqual(told, wanted)

    def test_no_thing(self):
        for strange in STRANGE + [3, 4, 128]:
            for row in [[strange], [0, strange], [strange, 0], [2, 1, 0, strange]]:
                self.refused(NoThing, part_of, [1, 3, 7], row)
        for strange in [0, 1] + STRANGE:
            self.refused(NoThing, part_of, [], [strange])
        self.refused(NoThing, part_of, [2 ** k for k in range(128)], [128])


class OrdersAreTheAskersOwn(HandedInAndTold, RingCase):
    def asked(self):
        return [
            (order_of, (4, [(0, 1), (0, 2), (1, 3), (2, 3), (2, 3)])),
            (order_of, (0, [])),
            (is_order, (diamond(),)),
            (is_order, ([1, 3, 6],)),
            (covers_of, (diamond(),)),
            (turned_over, (diamond(),)),
            (turned_over, ([1, 2, 4],)),
            (part_of, (diamond(), [0, 1, 2, 3])),
            (part_of, (diamond(), [2, 0])),
            (part_of, ([], [])),
        ]

    def test_a_ring_is_the_askers_own(self):
        pairs = [(0, 1), (1, 2), (2, 0)]
        first = self.refused(Ring, order_of, 3, pairs)
        kept = list(first.things)
        first.things.clear()
        self.assertEqual(self.refused(Ring, order_of, 3, pairs).things, kept)

    def test_the_same_rings_tell_the_same_one(self):
        pairs = [(0, 1), (1, 0), (2, 3), (3, 2), (4, 4)]
        told = [self.ring_told(5, pairs) for time in range(5)]
        self.assertEqual(told, [told[0]] * 5)


if __name__ == "__main__":
    unittest.main()
