"""Points 1, 5 and 41 to 45: tables of things and marks, their pairs and rules, and tables of rules."""

import itertools
import random
import unittest

from helper import (HUGE, HandedInAndTold, OrderCase, by_inclusion, chained_rules, closed_plainly, families,
                    full_rules, is_lattice_plainly, restless_plainly, some_rule_lists, within_plainly)
from orderhall.bases import base_of
from orderhall.errors import TooMany
from orderhall.orders import is_order
from orderhall.rules import closed_sets, follows
from orderhall.tables import having, pair_order, pairs_of, rules_of, shared_by, table_of

TOO_MANY = [8, 9, 64, 128, 129, 2 ** 64, HUGE]


def shared_plainly(rows, many, things):
    """Point 42, word by word."""
    marks = [mark for mark in range(many)
             if all(row >> mark & 1 for thing, row in enumerate(rows) if things >> thing & 1)]
    return sum(2 ** mark for mark in marks)


def having_plainly(rows, marks):
    return sum(2 ** thing for thing, row in enumerate(rows) if row & marks == marks)


def pairs_plainly(rows, many):
    """Point 43, word by word: of all sets of things with all sets of marks."""
    return [(things, marks) for things in range(2 ** len(rows)) for marks in range(2 ** many)
            if marks == shared_plainly(rows, many, things) and things == having_plainly(rows, marks)]


def holding_plainly(rows, many):
    """The rules of the table's marks that hold in it."""
    return [(need, give) for need, give in itertools.product(range(2 ** many), repeat=2)
            if all(within_plainly(give, row) for row in rows if within_plainly(need, row))]


def some_tables(most_things=6, most_marks=5, count=60):
    chance = random.Random(107)
    told = []
    for number in range(count):
        many = chance.randint(0, most_marks)
        told.append(([chance.randrange(2 ** many) for thing in range(chance.randint(0, most_things))], many))
    return told


def large_tables():
    """Tables of 128 things and seven marks."""
    chance = random.Random(109)
    told = [list(range(128)), [127] * 128, [0] * 128, [127 - 2 ** (thing % 7) for thing in range(128)]]
    return told + [[chance.randrange(128) | chance.randrange(128) for thing in range(128)] for number in range(3)]


class SharedAndHaving(OrderCase):
    def test_no_things(self):
        for many in range(8):
            self.assertEqual(shared_by([], many, 0), 2 ** many - 1)
            self.assertEqual(shared_by([0, 0], many, 0), 2 ** many - 1)
        self.assertEqual(having([], 0), 0)
        self.assertEqual(having([], 127), 0)

    def test_ordinary(self):
        rows = [0b011, 0b110, 0b111]
        self.assertEqual([shared_by(rows, 3, things) for things in range(8)], [7, 3, 6, 2, 7, 3, 6, 2])
        self.assertEqual([having(rows, marks) for marks in range(8)], [7, 5, 7, 5, 6, 4, 6, 4])

    def test_kinds(self):
        self.assertIs(type(shared_by([3], 2, 1)), int)
        self.assertIs(type(having([3], 1)), int)

    def test_no_marks(self):
        self.assertEqual(shared_by([0] * 128, 0, 2 ** 128 - 1), 0)
        self.assertEqual(having([0] * 128, 0), 2 ** 128 - 1)

    def test_against_all_sets(self):
        for rows, many in some_tables():
            for things in range(2 ** len(rows)):
                self.assertEqual(shared_by(rows, many, things), shared_plainly(rows, many, things))
            for marks in range(2 ** many):
                self.assertEqual(having(rows, marks), having_plainly(rows, marks))

    def test_128_things(self):
        chance = random.Random(113)
        for rows in large_tables():
            for things in [0, 1, 2 ** 127, 2 ** 128 - 1] + [chance.getrandbits(128) for number in range(9)]:
                self.assertEqual(shared_by(rows, 7, things), shared_plainly(rows, 7, things))
            for marks in range(128):
                self.assertEqual(having(rows, marks), having_plainly(rows, marks))

    def test_more_than_seven_marks(self):
        for many in TOO_MANY:
            self.refused(TooMany, shared_by, [], many, 0)
            self.refused(TooMany, shared_by, [1, 3] * 64, many, 2 ** 128 - 1)


class Pairs(OrderCase):
    def told(self, rows, many):
        told = pairs_of(rows, many)
        self.assertIs(type(told), list)
        self.assertTrue(all(type(pair) is tuple and len(pair) == 2 for pair in told))
        return told

    def test_a_table_without_things(self):
        for many in range(8):
            self.assertEqual(self.told([], many), [(0, 2 ** many - 1)])

    def test_no_marks(self):
        for count in [0, 1, 128]:
            self.assertEqual(self.told([0] * count, 0), [(2 ** count - 1, 0)])

    def test_ordinary(self):
        self.assertEqual(self.told([0b011, 0b110], 3), [(0, 7), (1, 3), (2, 6), (3, 2)])
        self.assertEqual(self.told([0b1, 0b10], 2), [(0, 3), (1, 1), (2, 2), (3, 0)])
        self.assertEqual(self.told([3, 3], 2), [(3, 3)])

    def test_alike_rows(self):
        self.assertEqual(self.told([1, 2, 1], 2), [(0, 3), (2, 2), (5, 1), (7, 0)])
        self.assertEqual(self.told([5] * 128, 3), [(0, 7), (2 ** 128 - 1, 5)])

    def test_against_all_sets(self):
        for rows, many in some_tables():
            self.assertEqual(self.told(rows, many), pairs_plainly(rows, many))

    def test_128_things(self):
        for rows in large_tables():
            told = self.told(rows, 7)
            self.assertEqual(told, sorted(told))
            self.assertEqual(sorted(marks for things, marks in told),
                             sorted(set(shared_plainly(rows, 7, having_plainly(rows, marks)) for marks in range(128))))
            for things, marks in told:
                self.assertEqual(marks, shared_plainly(rows, 7, things))
                self.assertEqual(things, having_plainly(rows, marks))
        self.assertEqual(len(self.told(list(range(128)), 7)), 128)

    def test_more_than_seven_marks(self):
        for many in TOO_MANY:
            self.refused(TooMany, pairs_of, [], many)
            self.refused(TooMany, pairs_of, [1] * 128, many)


class PairOrders(OrderCase):
    def test_ordinary(self):
        self.assertEqual(pair_order([(0, 7), (1, 3), (2, 6), (3, 2)]), [1, 3, 5, 15])
        self.assertEqual(pair_order([(0, 0)]), [1])

    def test_against_the_sets_of_things(self):
        for rows, many in some_tables():
            told = pairs_of(rows, many)
            order = pair_order(told)
            self.assertIs(type(order), list)
            self.assertEqual(order, by_inclusion([things for things, marks in told]))

    def test_more_things_fewer_marks(self):
        for rows, many in some_tables():
            told = pairs_of(rows, many)
            order = pair_order(told)
            for low, high in itertools.product(range(len(told)), repeat=2):
                self.assertEqual(order[high] >> low & 1 == 1, within_plainly(told[high][1], told[low][1]))

    def test_it_is_always_a_lattice(self):
        for rows, many in some_tables():
            order = pair_order(pairs_of(rows, many))
            self.assertTrue(is_order(order))
            self.assertTrue(is_lattice_plainly(order))

    def test_128_pairs(self):
        order = pair_order(pairs_of(list(range(128)), 7))
        self.assertEqual(len(order), 128)
        self.assertTrue(is_order(order))


class RulesOfTables(OrderCase):
    def told(self, rows, many):
        told = rules_of(rows, many)
        self.assertIs(type(told), list)
        self.assertTrue(all(type(rule) is tuple for rule in told))
        return told

    def test_a_table_without_things(self):
        self.assertEqual(self.told([], 0), [])
        for many in range(1, 8):
            self.assertEqual(self.told([], many), [(0, 2 ** many - 1)])

    def test_ordinary(self):
        self.assertEqual(self.told([0b011, 0b110], 3), [(0, 2)])
        self.assertEqual(self.told([0b1, 0b10], 2), [])
        self.assertEqual(self.told([0b01, 0b11], 2), [(0, 1)])
        self.assertEqual(self.told([0b001, 0b010, 0b100], 3), [(3, 7), (5, 7), (6, 7)])

    def test_no_rule_holds(self):
        self.assertEqual(self.told(list(range(128)), 7), [])
        self.assertEqual(self.told([127 - 2 ** k for k in range(7)], 7), [])

    def test_against_all_rules_that_hold(self):
        for rows, many in some_tables(most_marks=4):
            closed = closed_plainly(many, holding_plainly(rows, many))
            self.assertEqual(self.told(rows, many), restless_plainly(many, closed))

    def test_just_what_follows_holds(self):
        for rows, many in some_tables(most_marks=3, count=40):
            told = self.told(rows, many)
            holding = holding_plainly(rows, many)
            for rule in itertools.product(range(2 ** many), repeat=2):
                self.assertEqual(follows(told, rule), rule in holding)

    def test_the_closed_sets_are_the_marks_of_the_pairs(self):
        tables = some_tables(most_marks=7) + [(rows, 7) for rows in large_tables()]
        for rows, many in tables:
            marks = sorted(marks for things, marks in pairs_of(rows, many))
            self.assertEqual(closed_sets(many, self.told(rows, many)), marks)

    def test_it_is_a_base(self):
        tables = some_tables(most_marks=7) + [(rows, 7) for rows in large_tables()]
        for rows, many in tables:
            told = self.told(rows, many)
            self.assertEqual(base_of(told), told)

    def test_seven_marks_from_the_least_up(self):
        for rows, many in some_tables(most_things=12, most_marks=7, count=30):
            marks = [marks for things, marks in pairs_of(rows, many)]
            self.assertEqual(self.told(rows, many), restless_plainly(many, marks))

    def test_more_than_seven_marks(self):
        for many in TOO_MANY:
            self.refused(TooMany, rules_of, [], many)
            self.refused(TooMany, rules_of, [1] * 128, many)


class TablesOfRules(OrderCase):
    def told(self, many, rules):
        told = table_of(many, rules)
        self.assertIs(type(told), list)
        self.assertEqual(told, sorted(set(told)))
        return told

    def test_no_rules(self):
        self.assertEqual(self.told(0, []), [])
        self.assertEqual(self.told(1, []), [0])
        self.assertEqual(self.told(7, []), [63, 95, 111, 119, 123, 125, 126])

    def test_ordinary(self):
        self.assertEqual(self.told(2, [(0, 3)]), [])
        self.assertEqual(self.told(3, [(1, 2), (2, 4)]), [0, 4, 6])
        self.assertEqual(self.told(3, [(3, 7), (5, 7), (6, 7)]), [1, 2, 4])
        self.assertEqual(self.told(7, chained_rules(0, 6)), [0, 64, 96, 112, 120, 124, 126])

    def test_against_all_closed_sets(self):
        for many in range(8):
            for rules in some_rule_lists(many, 25):
                closed = closed_plainly(many, rules)
                told = []
                for bits in closed:
                    others = [other for other in closed if other != bits and within_plainly(bits, other)]
                    shared = [mark for mark in range(many) if all(other >> mark & 1 for other in others)]
                    if bits != 2 ** many - 1 and bits != sum(2 ** mark for mark in shared):
                        told.append(bits)
                self.assertEqual(self.told(many, rules), told)

    def test_its_pairs_have_just_the_closed_sets(self):
        for many in range(8):
            for rules in some_rule_lists(many, 25):
                marks = sorted(marks for things, marks in pairs_of(self.told(many, rules), many))
                self.assertEqual(marks, closed_plainly(many, rules))

    def test_no_fewer_things_will_do(self):
        fewest = {}
        for count in range(4):
            for rows in itertools.combinations(range(8), count):
                fewest.setdefault(tuple(sorted(marks for things, marks in pairs_plainly(rows, 3))), count)
        for closed in families(3):
            self.assertEqual(min(len(self.told(3, full_rules(3, closed))), 4), fewest.get(tuple(closed), 4))

    def test_more_than_seven_marks(self):
        for many in TOO_MANY:
            self.refused(TooMany, table_of, many, [])
            self.refused(TooMany, table_of, many, [(1, 2)] * 64)


class TablesAreTheAskersOwn(HandedInAndTold, OrderCase):
    def asked(self):
        told = [(table_of, (many, [(0, 1), (3, 4), (3, 4)])) for many in [3, 7]] + [(table_of, (0, []))]
        for rows, many in [([], 0), ([], 7), ([1, 2, 1], 2), ([3, 5, 6, 7], 3), (list(range(128)), 7)]:
            told += [(shared_by, (list(rows), many, 2 ** len(rows) - 1)), (having, (list(rows), 2 ** many - 1)),
                     (pairs_of, (list(rows), many)), (rules_of, (list(rows), many)),
                     (pair_order, (pairs_of(rows, many),))]
        return told


if __name__ == "__main__":
    unittest.main()
