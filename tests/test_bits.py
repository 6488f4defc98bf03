"""Points 2 and 6: sets, and what orderhall.bits tells of them."""

import itertools
import unittest

from orderhall.bits import bits_of, many_in, places_of, within

ALL = 2 ** 128 - 1


class BitsOf(unittest.TestCase):
    def test_the_set_of_none(self):
        self.assertEqual(bits_of([]), 0)

    def test_bit_k_is_worth_two_to_the_k(self):
        for place in range(128):
            self.assertEqual(bits_of([place]), 2 ** place)

    def test_in_any_order(self):
        for row in itertools.permutations([0, 3, 5, 127]):
            self.assertEqual(bits_of(list(row)), 1 + 8 + 32 + 2 ** 127)

    def test_a_number_several_times(self):
        self.assertEqual(bits_of([4, 1, 4, 4, 1]), 18)
        self.assertEqual(bits_of([0, 0]), 1)
        self.assertEqual(bits_of([127] * 128), 2 ** 127)

    def test_all(self):
        self.assertEqual(bits_of(list(range(128))), ALL)
        self.assertEqual(bits_of(list(range(127, -1, -1))), ALL)

    def test_the_row_stays_as_it_is(self):
        row = [5, 2, 5]
        bits_of(row)
        self.assertEqual(row, [5, 2, 5])


class PlacesOf(unittest.TestCase):
    def test_least_first(self):
        self.assertEqual(places_of(0), [])
        self.assertEqual(places_of(1), [0])
        self.assertEqual(places_of(0b101100), [2, 3, 5])
        self.assertEqual(places_of(2 ** 127), [127])
        self.assertEqual(places_of(2 ** 127 + 2 ** 64 + 1), [0, 64, 127])
        self.assertEqual(places_of(ALL), list(range(128)))

    def test_there_and_back(self):
        for bits in list(range(1024)) + [ALL - 2 ** place for place in range(128)]:
            row = places_of(bits)
            self.assertEqual(row, sorted(set(row)))
            self.assertEqual(bits_of(row), bits)

    def test_the_row_told_is_the_askers_own(self):
        places_of(6).append(9)
        self.assertEqual(places_of(6), [1, 2])


class ManyIn(unittest.TestCase):
    def test_how_many(self):
        self.assertEqual(many_in(0), 0)
        self.assertEqual(many_in(2 ** 127), 1)
        self.assertEqual(many_in(ALL), 128)
        for bits in range(1024):
            self.assertEqual(many_in(bits), bin(bits).count("1"))
            self.assertEqual(many_in(bits << 118), bin(bits).count("1"))


class Within(unittest.TestCase):
    def test_all_small_sets(self):
        for one in range(32):
            for other in range(32):
                told = within(one, other)
                self.assertIs(told, set(places_of(one)) <= set(places_of(other)))

    def test_edges(self):
        self.assertIs(within(0, 0), True)
        self.assertIs(within(0, ALL), True)
        self.assertIs(within(ALL, ALL), True)
        self.assertIs(within(ALL, ALL - 1), False)
        self.assertIs(within(2 ** 127, ALL), True)
        self.assertIs(within(2 ** 127, 2 ** 127 - 1), False)
        self.assertIs(within(1, 0), False)


if __name__ == "__main__":
    unittest.main()
