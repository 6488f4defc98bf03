"""Points 1 and 40: the base of a list of rules."""

import itertools
import random
import unittest

from helper import (HandedInAndTold, OrderCase, chained_rules, closed_plainly, families, full_rules,
                    restless_plainly, some_rule_lists, some_rules, within_plainly)
from orderhall.bases import base_of
from orderhall.rules import closure_of, follows


def spread_out(bits, marks):
    """The set with marks[k] in the place of k."""
    return sum(2 ** mark for k, mark in enumerate(marks) if bits >> k & 1)


def fewest_rules(many, most):
    """For each list of closed sets that so few rules can have, how many rules it takes."""
    told = {}
    everything = list(itertools.product(range(2 ** many), repeat=2))
    for count in range(most + 1):
        for rules in itertools.combinations(everything, count):
            told.setdefault(tuple(closed_plainly(many, rules)), count)
    return told


class Bases(OrderCase):
    def told(self, rules):
        told = base_of(rules)
        self.assertIs(type(told), list)
        self.assertTrue(all(type(rule) is tuple and len(rule) == 2 for rule in told))
        self.assertEqual(told, sorted(told))
        return told

    def test_no_rules_that_say_anything(self):
        for rules in [[], [(0, 0)], [(5, 4)], [(7, 7), (7, 0), (2 ** 127, 2 ** 127)] * 21]:
            self.assertEqual(self.told(rules), [])

    def test_ordinary(self):
        self.assertEqual(self.told([(1, 2)]), [(1, 3)])
        self.assertEqual(self.told([(1, 2), (2, 4)]), [(1, 7), (2, 6)])
        self.assertEqual(self.told([(0, 1), (3, 4)]), [(0, 1), (3, 7)])
        self.assertEqual(self.told([(2, 4), (0, 1)]), [(0, 1), (3, 7)])

    def test_a_need_is_filled_up(self):
        self.assertEqual(self.told([(0b101, 0b1000), (0b1, 0b10)]), [(0b1, 0b11), (0b111, 0b1111)])
        self.assertEqual(self.told([(0b1, 0b10), (0b101, 0b1000)]), [(0b1, 0b11), (0b111, 0b1111)])

    def test_rules_that_say_the_same(self):
        self.assertEqual(self.told([(1, 2)] * 64), [(1, 3)])
        self.assertEqual(self.told([(1, 2), (1, 4)]), [(1, 7)])
        self.assertEqual(self.told([(1, 2), (2, 4), (1, 4), (3, 4)]), [(1, 7), (2, 6)])
        self.assertEqual(self.told([(1, 2), (2, 1), (1, 4), (2, 4)]), [(1, 7), (2, 7)])

    def test_rules_that_go_on(self):
        told = [(2 ** k, 2 ** 128 - 2 ** k) for k in range(63, 127)]
        self.assertEqual(self.told(chained_rules(63, 127)), told)
        self.assertEqual(self.told(list(reversed(chained_rules(63, 127)))), told)

    def test_against_all_sets_from_the_least_up(self):
        for many, count in [(1, 20), (2, 40), (3, 100), (4, 200), (5, 100), (7, 20)]:
            for rules in some_rule_lists(many, count):
                self.assertEqual(self.told(rules), restless_plainly(many, closed_plainly(many, rules)), rules)

    def test_64_rules_of_eight_marks(self):
        chance = random.Random(97)
        for count in range(6):
            rules = some_rules(chance, 8, 64, needs=8, gives=1 + count // 3)
            rules = [(need, give) for need, give in rules if bin(need).count("1") > 2]
            self.assertEqual(self.told(rules), restless_plainly(8, closed_plainly(8, rules)))

    def test_every_family_of_three_marks(self):
        for closed in families(3):
            rules = full_rules(3, closed)
            told = restless_plainly(3, closed)
            self.assertEqual(self.told(rules), told)
            self.assertEqual(self.told(list(reversed(rules))), told)
            self.assertEqual(self.told(told), told)

    def test_marks_far_apart(self):
        marks = [3, 40, 63, 64, 127]
        for rules in some_rule_lists(5):
            far = [(spread_out(need, marks), spread_out(give, marks)) for need, give in rules]
            told = [(spread_out(need, marks), spread_out(give, marks)) for need, give in self.told(rules)]
            self.assertEqual(self.told(far), told)

    def test_the_same_closed_sets_as_the_rules(self):
        for rules in some_rule_lists(4):
            self.assertEqual(closed_plainly(4, self.told(rules)), closed_plainly(4, rules))

    def test_alike_just_where_the_closed_sets_are(self):
        lists = some_rule_lists(2, 80) + some_rule_lists(3, 40)
        alike = 0
        for one, other in itertools.combinations(lists, 2):
            same = closed_plainly(3, one) == closed_plainly(3, other)
            self.assertEqual(self.told(one) == self.told(other), same)
            alike += same
        self.assertGreater(alike, 100)

    def test_the_order_of_the_rules_does_not_matter(self):
        chance = random.Random(101)
        for rules in some_rule_lists(6, 40):
            self.assertEqual(self.told(chance.sample(rules, len(rules))), self.told(rules))

    def test_no_rule_follows_from_the_others(self):
        for rules in some_rule_lists(5):
            told = self.told(rules)
            for rule in told:
                self.assertFalse(follows([other for other in told if other != rule], rule))

    def test_no_fewer_rules_will_do(self):
        fewest = fewest_rules(3, 2)
        for closed in families(3):
            self.assertEqual(min(len(self.told(full_rules(3, closed))), 3), fewest.get(tuple(closed), 3))

    def test_64_rules_over_128_marks(self):
        """A list of rules that say the same, each need of which the others leave as it is, is the base."""
        chance = random.Random(103)
        for needs, gives in [(1, 1), (1, 3), (2, 9), (3, 40), (9, 99), (40, 40)]:
            rules = some_rules(chance, 128, 64, needs, gives)
            told = self.told(rules)
            for need, give in told:
                self.assertNotEqual(need, give)
                self.assertEqual(closure_of(rules, need), give)
                self.assertEqual(closure_of([rule for rule in told if rule != (need, give)], need), need)
            self.assertTrue(all(follows(told, rule) for rule in rules))

    def test_every_closure_in_a_need_is_held(self):
        for rules in some_rule_lists(5):
            told = self.told(rules)
            for (need, give), (other, closure) in itertools.permutations(told, 2):
                if within_plainly(other, need):
                    self.assertTrue(within_plainly(closure, need))

    def test_somewhat_beyond_the_bound(self):
        self.assertEqual(len(self.told(chained_rules(0, 70))), 70)


class BasesAreTheAskersOwn(HandedInAndTold, OrderCase):
    def asked(self):
        return [(base_of, (list(rules),)) for rules in [[], [(1, 3)], [(2, 4), (1, 2)], chained_rules(63, 127)]]


if __name__ == "__main__":
    unittest.main()
