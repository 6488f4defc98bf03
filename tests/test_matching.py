"""Points 1, 11 and 12: ties, as many at once as can be, and the ends that touch all."""

import itertools
import random
import unittest

from helper import HandedInAndTold, OrderCase
from orderhall.matching import matched, touched

ALL = 2 ** 128 - 1


def most_ties(ties):
    """How many of the left can be tied at once, by all possibilities."""
    if not ties:
        return 0
    most = most_ties(ties[1:])
    for right in range(ties[0].bit_length()):
        if ties[0] >> right & 1:
            most = max(most, 1 + most_ties([tie & ~2 ** right for tie in ties[1:]]))
    return most


def fewest_ends(ties, rights):
    """How many ends touch every tie that may be, by all possibilities."""
    least = len(ties)
    for chosen in range(2 ** rights):
        lefts = [left for left, tie in enumerate(ties) if tie & ~chosen]
        least = min(least, len(lefts) + bin(chosen).count("1"))
    return least


def some_ties(chance, lefts, rights, share):
    return [sum(2 ** right for right in range(rights) if chance.random() < share) for left in range(lefts)]


class TiesCase(OrderCase):
    def ties_told(self, ties):
        """How many ties are told, when all that can be seen without other possibilities holds."""
        told = matched(ties)
        self.assertIs(type(told), list)
        self.assertEqual(len(told), len(ties))
        taken = [right for right in told if right is not None]
        self.assertEqual(len(taken), len(set(taken)))
        for tie, right in zip(ties, told):
            if right is not None:
                self.assertIs(type(right), int)
                self.assertGreaterEqual(right, 0)
                self.assertEqual(tie >> right & 1, 1)
        return len(taken)

    def ends_told(self, ties):
        told = touched(ties)
        self.assertIs(type(told), tuple)
        self.assertEqual([type(part) for part in told], [int, int])
        lefts, rights = told
        self.assertEqual(lefts >> len(ties), 0)
        for left, tie in enumerate(ties):
            if lefts >> left & 1 == 0:
                self.assertEqual(tie & ~rights, 0, left)
        return bin(lefts).count("1") + bin(rights).count("1")

    def both_told(self, ties):
        """As many ends as ties prove one another: fewer ends can't touch all ties, nor more ties be taken."""
        many = self.ties_told(ties)
        self.assertEqual(self.ends_told(ties), many)
        return many


class FewTies(TiesCase):
    def test_none(self):
        self.assertEqual(matched([]), [])
        self.assertEqual(touched([]), (0, 0))

    def test_one_left(self):
        self.assertEqual(matched([0]), [None])
        self.assertEqual(touched([0]), (0, 0))
        self.assertEqual(matched([1]), [0])
        self.assertEqual(matched([2 ** 127]), [127])
        self.assertIn(touched([2 ** 127]), [(1, 0), (0, 2 ** 127)])
        self.assertEqual(touched([ALL]), (1, 0))

    def test_one_right(self):
        told = matched([4, 4, 4])
        self.assertEqual(sorted(told, key=str), [2, None, None])
        self.assertEqual(touched([4, 4, 4]), (0, 4))

    def test_the_first_must_give_way(self):
        self.assertEqual(matched([3, 1]), [1, 0])
        self.assertEqual(matched([7, 3, 1]), [2, 1, 0])
        self.assertEqual(matched([1, 3, 6]), [0, 1, 2])
        self.assertEqual(self.both_told([3, 5, 3]), 3)

    def test_all_tables_of_three_on_each_side(self):
        for ties in itertools.product(range(8), repeat=3):
            many = self.both_told(list(ties))
            self.assertEqual(many, most_ties(list(ties)), ties)
            self.assertEqual(many, fewest_ends(ties, 3), ties)

    def test_all_tables_of_four_and_three(self):
        for ties in itertools.product(range(8), repeat=4):
            self.assertEqual(self.both_told(list(ties)), most_ties(list(ties)), ties)
        for ties in itertools.product(range(16), repeat=3):
            self.assertEqual(self.both_told(list(ties)), most_ties(list(ties)), ties)

    def test_some_tables_of_six(self):
        chance = random.Random(11)
        for time in range(300):
            ties = some_ties(chance, 6, 6, chance.choice([0.15, 0.3, 0.5]))
            many = self.both_told(ties)
            self.assertEqual(many, most_ties(ties), ties)
            self.assertEqual(many, fewest_ends(ties, 6), ties)


class ManyTies(TiesCase):
    def test_all_may_be_tied_to_all(self):
        self.assertEqual(self.both_told([ALL] * 128), 128)
        self.assertEqual(sorted(matched([ALL] * 128)), list(range(128)))
        self.assertEqual(self.both_told([ALL] * 5), 5)

    def test_none_may_be_tied(self):
        self.assertEqual(matched([0] * 128), [None] * 128)
        self.assertEqual(touched([0] * 128), (0, 0))

    def test_all_want_the_last(self):
        told = matched([2 ** 127] * 128)
        self.assertEqual([right for right in told if right is not None], [127])
        self.assertEqual(touched([2 ** 127] * 128), (0, 2 ** 127))

    def test_each_has_its_own(self):
        self.assertEqual(matched([2 ** (127 - k) for k in range(128)]), list(range(127, -1, -1)))
        self.assertEqual(self.both_told([2 ** k for k in range(128)]), 128)

    def test_all_must_give_way_for_the_last(self):
        rising = [3 * 2 ** k for k in range(127)] + [1]
        self.assertEqual(matched(rising), list(range(1, 128)) + [0])
        falling = [3 * 2 ** (126 - k) for k in range(127)] + [2 ** 127]
        self.assertEqual(matched(falling), list(range(126, -1, -1)) + [127])
        self.assertEqual(self.both_told(rising), 128)
        self.assertEqual(self.both_told(falling), 128)
        self.assertEqual(self.both_told([2 ** (k + 1) - 1 for k in range(127, -1, -1)]), 128)

    def test_many_share_few(self):
        few = 2 ** 3 + 2 ** 64 + 2 ** 127
        self.assertEqual(self.both_told([few] * 100 + [ALL] * 28), 31)
        self.assertEqual(self.both_told([few] * 64 + [0] * 60 + [1, 2, 4, 8]), 6)

    def test_somewhat_beyond_the_bound_is_not_refused(self):
        self.assertEqual(matched([2 ** (129 - k) for k in range(130)]), list(range(129, -1, -1)))
        self.assertEqual(self.both_told([2 ** 130 - 1] * 130), 130)

    def test_some_large_tables(self):
        chance = random.Random(13)
        for share in [0.005, 0.01, 0.02, 0.05, 0.5, 0.95]:
            for lefts, rights in [(128, 128), (128, 40), (40, 128), (127, 128)]:
                many = self.both_told(some_ties(chance, lefts, rights, share))
                self.assertLessEqual(many, min(lefts, rights))

    def test_a_hidden_full_table_is_found(self):
        chance = random.Random(17)
        for time in range(10):
            hidden = chance.sample(range(128), 128)
            ties = [2 ** right | 2 ** chance.randrange(128) | 2 ** chance.randrange(128) for right in hidden]
            self.assertEqual(self.both_told(ties), 128)


class MatchingIsTheAskersOwn(HandedInAndTold, TiesCase):
    def asked(self):
        return [(function, (list(ties),)) for function in [matched, touched]
                for ties in [[], [0], [3, 1], [7, 3, 1, 1], [ALL] * 128, [5, 9, 12, 6]]]


if __name__ == "__main__":
    unittest.main()
