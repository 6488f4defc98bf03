"""Points 1, 5 and 36 to 39: rules, closures, what follows and why, and closed sets."""

import itertools
import random
import unittest

from helper import (HUGE, HandedInAndTold, OrderCase, chained_rules, closed_plainly, families, full_rules,
                    is_closed_plainly, least_of, some_rule_lists, some_rules, within_plainly)
from orderhall.errors import TooMany
from orderhall.rules import closed_sets, closure_of, follows, why_of

ALL_MARKS = 2 ** 128 - 1


def closure_plainly(rules, marks):
    """The marks, and again and again the gives of all rules whose needs are held."""
    while not is_closed_plainly(rules, marks):
        for need, give in rules:
            if within_plainly(need, marks):
                marks |= give
    return marks


def large_rule_lists():
    """Lists of 64 rules over all 128 marks."""
    chance = random.Random(71)
    told = [chained_rules(63, 127), list(reversed(chained_rules(63, 127))), chained_rules(0, 64)]
    told += [some_rules(chance, 128, 64, needs, gives) for needs, gives in [(1, 1), (1, 3), (2, 9), (3, 40), (9, 99)]]
    return told + [chance.sample(chained_rules(60, 124), 64)]


class RuleCase(OrderCase):
    def closure_told(self, rules, marks):
        told = closure_of(rules, marks)
        self.assertIs(type(told), int)
        return told

    def why_told(self, rules, marks, mark):
        """The places told, held against point 38 word by word."""
        told = why_of(rules, marks, mark)
        if not closure_plainly(rules, marks) >> mark & 1:
            self.assertIsNone(told)
            return None
        self.assertIs(type(told), list)
        self.assertEqual(len(set(told)), len(told))
        self.assertTrue(set(told) <= set(range(len(rules))))
        reached = marks
        for place in told:
            self.assertTrue(within_plainly(rules[place][0], reached))
            reached |= rules[place][1]
        self.assertEqual(reached >> mark & 1, 1)
        for left_out in told:
            others = [rules[place] for place in told if place != left_out]
            self.assertEqual(closure_plainly(others, marks) >> mark & 1, 0)
        self.assertEqual(told == [], marks >> mark & 1 == 1)
        return told


class Closures(RuleCase):
    def test_no_rules(self):
        for marks in [0, 1, 5, 2 ** 127, ALL_MARKS]:
            self.assertEqual(self.closure_told([], marks), marks)

    def test_ordinary(self):
        rules = [(0b11, 0b100), (0b100, 0b1000), (0b10000, 0b1)]
        self.assertEqual(self.closure_told(rules, 0b1), 0b1)
        self.assertEqual(self.closure_told(rules, 0b11), 0b1111)
        self.assertEqual(self.closure_told(rules, 0b10010), 0b11111)
        self.assertEqual(self.closure_told(rules, 0), 0)

    def test_a_rule_without_need(self):
        self.assertEqual(self.closure_told([(0, 2), (2, 8)], 0), 10)
        self.assertEqual(self.closure_told([(2, 8), (0, 2)], 1), 11)
        self.assertEqual(self.closure_told([(0, 0)], 0), 0)

    def test_the_mark_127(self):
        self.assertEqual(self.closure_told([(1, 2 ** 127)], 1), 2 ** 127 + 1)
        self.assertEqual(self.closure_told([(2 ** 127, 1)], 2 ** 127), 2 ** 127 + 1)
        self.assertEqual(self.closure_told([(2 ** 126, ALL_MARKS)], 2 ** 127), 2 ** 127)

    def test_rules_that_go_on_in_any_order(self):
        chance = random.Random(73)
        rules = chained_rules(63, 127)
        for told in [rules, list(reversed(rules)), chance.sample(rules, 64), chance.sample(rules, 64)]:
            self.assertEqual(self.closure_told(told, 2 ** 63), 2 ** 128 - 2 ** 63)
            self.assertEqual(self.closure_told(told, 2 ** 127), 2 ** 127)
            self.assertEqual(self.closure_told(told, 2 ** 100), 2 ** 128 - 2 ** 100)

    def test_a_rule_several_times(self):
        self.assertEqual(self.closure_told([(1, 2)] * 64, 1), 3)
        self.assertEqual(self.closure_told([(2, 4), (1, 2), (2, 4), (1, 2)], 1), 7)

    def test_against_all_sets(self):
        for many in [0, 1, 3, 5]:
            for rules in some_rule_lists(many):
                closed = closed_plainly(many, rules)
                for marks in range(2 ** many):
                    self.assertEqual(self.closure_told(rules, marks), least_of(closed, marks))

    def test_64_rules_over_128_marks(self):
        chance = random.Random(79)
        for rules in large_rule_lists():
            self.assertEqual(len(rules), 64)
            for marks in [0, ALL_MARKS] + [chance.getrandbits(128) & chance.getrandbits(128) for number in range(10)]:
                self.assertEqual(self.closure_told(rules, marks), closure_plainly(rules, marks))

    def test_somewhat_beyond_the_bounds(self):
        self.assertEqual(self.closure_told(chained_rules(0, 70), 1), 2 ** 71 - 1)
        self.assertEqual(self.closure_told([(1, 2 ** 130)], 1), 2 ** 130 + 1)


class Follows(RuleCase):
    def test_ordinary(self):
        rules = [(1, 2), (2, 4)]
        for rule in [(1, 4), (1, 7), (2, 6), (3, 4), (0, 0), (8, 8), (8, 0), (1, 2)]:
            self.assertIs(follows(rules, rule), True)
        for rule in [(0, 1), (2, 1), (4, 2), (1, 8), (1, 15)]:
            self.assertIs(follows(rules, rule), False)

    def test_no_rules(self):
        self.assertIs(follows([], (5, 4)), True)
        self.assertIs(follows([], (5, 2)), False)
        self.assertIs(follows([], (0, 0)), True)

    def test_just_where_each_closed_set_keeps_the_rule(self):
        for rules in some_rule_lists(4):
            closed = closed_plainly(4, rules)
            for rule in itertools.product(range(16), repeat=2):
                told = follows(rules, rule)
                self.assertIs(type(told), bool)
                self.assertEqual(told, all(is_closed_plainly([rule], bits) for bits in closed))

    def test_64_rules(self):
        self.assertIs(follows(chained_rules(63, 127), (2 ** 63, 2 ** 127)), True)
        self.assertIs(follows(chained_rules(63, 127), (2 ** 64, 2 ** 63)), False)


class Why(RuleCase):
    def test_no_rules(self):
        self.assertEqual(why_of([], 1, 0), [])
        self.assertIsNone(why_of([], 1, 1))
        self.assertIsNone(why_of([], 0, 127))

    def test_in_the_marks_themselves(self):
        self.assertEqual(why_of([(0, 1), (1, 2)], 3, 1), [])
        self.assertEqual(why_of([(0, 1), (1, 2)] * 32, ALL_MARKS, 127), [])

    def test_ordinary(self):
        rules = [(0b1000, 0b10), (0b11, 0b100), (0b1, 0b1000)]
        self.assertEqual(self.why_told(rules, 1, 2), [2, 0, 1])
        self.assertEqual(self.why_told(rules, 1, 1), [2, 0])
        self.assertEqual(self.why_told(rules, 1, 3), [2])
        self.assertIsNone(self.why_told(rules, 2, 0))

    def test_a_rule_without_need(self):
        self.assertEqual(self.why_told([(0, 4)], 0, 2), [0])
        self.assertEqual(self.why_told([(4, 2), (0, 4)], 0, 1), [1, 0])

    def test_no_rule_is_told_that_can_be_left_out(self):
        self.assertEqual(len(self.why_told([(1, 2), (2, 4), (1, 4)], 1, 2)), 1)
        self.assertEqual(self.why_told([(1, 2), (1, 4), (2, 8), (4, 16), (16, 128)], 1, 7), [1, 3, 4])
        shortcut = [(1, 2), (2, 4), (4, 8), (1, 12)]
        self.assertIn(self.why_told(shortcut, 1, 3), [[3], [0, 1, 2]])

    def test_a_rule_several_times(self):
        for rules in [[(1, 2)] * 64, [(1, 2), (2, 4), (1, 2), (2, 4)] * 16]:
            self.assertEqual(len(self.why_told(rules, 1, 1)), 1)
        self.assertEqual(len(self.why_told([(2, 4), (1, 2)] * 32, 1, 2)), 2)

    def test_rules_that_go_on(self):
        rules = chained_rules(63, 127)
        self.assertEqual(self.why_told(rules, 2 ** 63, 127), list(range(64)))
        self.assertEqual(self.why_told(list(reversed(rules)), 2 ** 63, 127), list(range(63, -1, -1)))
        self.assertEqual(self.why_told(rules, 2 ** 100 + 2 ** 63, 127), list(range(37, 64)))
        self.assertIsNone(self.why_told(rules, 2 ** 64, 63))
        self.assertEqual(self.why_told(rules, 2 ** 126, 127), [63])

    def test_against_all_marks(self):
        for rules in some_rule_lists(4):
            for marks, mark in itertools.product(range(16), range(5)):
                self.why_told(rules, marks, mark)

    def test_64_rules_over_128_marks(self):
        chance = random.Random(83)
        longest = 0
        for rules in large_rule_lists():
            for number in range(12):
                told = self.why_told(rules, chance.getrandbits(128) & chance.getrandbits(128), chance.randrange(128))
                longest = max(longest, len(told or []))
            self.why_told(rules, 1, 127)
        self.assertGreater(longest, 3)

    def test_a_mark_somewhat_beyond(self):
        self.assertIsNone(why_of([(0, 1)], 1, 128))
        self.assertEqual(why_of([(0, 2 ** 130)], 1, 130), [0])


class ClosedSets(RuleCase):
    def test_no_rules(self):
        for many in range(8):
            self.assertEqual(closed_sets(many, []), list(range(2 ** many)))

    def test_no_marks(self):
        self.assertEqual(closed_sets(0, []), [0])
        self.assertEqual(closed_sets(0, [(0, 0)] * 64), [0])

    def test_ordinary(self):
        self.assertEqual(closed_sets(3, [(1, 2), (2, 4)]), [0, 4, 6, 7])
        self.assertEqual(closed_sets(2, [(0, 3)]), [3])
        self.assertEqual(closed_sets(7, chained_rules(0, 6)), [0, 64, 96, 112, 120, 124, 126, 127])

    def test_against_all_sets(self):
        for many in range(8):
            for rules in some_rule_lists(many, 25):
                told = closed_sets(many, rules)
                self.assertIs(type(told), list)
                self.assertEqual(told, closed_plainly(many, rules))

    def test_every_family_of_three_marks(self):
        for closed in families(3):
            self.assertEqual(closed_sets(3, full_rules(3, closed)), closed)

    def test_64_rules(self):
        chance = random.Random(89)
        rules = some_rules(chance, 7, 64, needs=5)
        self.assertEqual(closed_sets(7, rules), closed_plainly(7, rules))

    def test_more_than_seven_marks(self):
        for many in [8, 9, 64, 128, 129, 2 ** 64, HUGE]:
            self.refused(TooMany, closed_sets, many, [])
            self.refused(TooMany, closed_sets, many, [(1, 2)] * 64)
        self.assertEqual(len(closed_sets(7, [])), 128)


class RulesAreTheAskersOwn(HandedInAndTold, RuleCase):
    def asked(self):
        told = []
        for rules in [[], [(0, 1)], [(1, 2), (2, 4), (1, 2)], chained_rules(0, 6)]:
            told += [(closure_of, (list(rules), 1)), (follows, (list(rules), (1, 2))), (why_of, (list(rules), 1, 0)),
                     (why_of, (list(rules), 1, 2)), (closed_sets, (7, list(rules)))]
        return told


if __name__ == "__main__":
    unittest.main()
