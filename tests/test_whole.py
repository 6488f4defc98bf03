"""The points that speak of one another, over the whole program."""

import importlib
import inspect
import itertools
import random
import unittest

from helper import (OrderCase, all_beside, all_orders, beside, bounded, by_inclusion, chain, diamond,
                    fan, grown_orders, ladder, lies_below, shuffled, small_lattices, some_lattices, some_orders,
                    some_rule_lists)
from orderhall.bases import base_of
from orderhall.bits import bits_of, many_in, places_of, within
from orderhall.chains import chains_of, layers_of, longest_of, most_beside
from orderhall.completes import completed, table_back
from orderhall.errors import NoTwoRows, OrderError, Ring
from orderhall.lattices import all_over, all_under, high_parts, lattice_of, low_parts
from orderhall.looks import looks_kept
from orderhall.matching import matched, touched
from orderhall.orders import covers_of, order_of, part_of, turned_over
from orderhall.rules import closed_sets, closure_of, follows, why_of
from orderhall.spreads import downset_order, five_of, spread_of
from orderhall.tables import having, pair_order, pairs_of, rules_of, shared_by, table_of
from orderhall.tworows import order_by, two_rows
from orderhall.ways import downsets_of, number_of, way_at, ways_in

INTERFACE = {
    "bits": ["bits_of(row)", "places_of(bits)", "many_in(bits)", "within(one, other)"],
    "orders": ["order_of(many, pairs)", "is_order(downs)", "covers_of(downs)", "turned_over(downs)",
               "part_of(downs, things)"],
    "matching": ["matched(ties)", "touched(ties)"],
    "chains": ["layers_of(downs)", "longest_of(downs)", "chains_of(downs)", "most_beside(downs)"],
    "ways": ["downsets_of(downs)", "ways_in(downs)", "way_at(downs, number)", "number_of(downs, row)",
             "ways_ahead(downs, one, other)", "steps_between(downs, one, other)"],
    "tworows": ["order_by(rows)", "forces(downs, pair, other)", "forced_by(downs, pair)", "two_rows(downs)"],
    "lattices": ["lattice_of(downs)", "low_parts(lattice)", "high_parts(lattice)", "all_over(lattice, things)",
                 "all_under(lattice, things)", "Lattice.over(self, one, other)", "Lattice.under(self, one, other)",
                 "Lattice.below(self, one, other)", "Lattice.bottom(self)", "Lattice.top(self)",
                 "Lattice.order(self)"],
    "looks": ["all_looks()", "looks_kept(lattice)"] + [
        f"{name}.{method}" for name in ["Balanced", "Spreading", "Paired", "Single"]
        for method in ["named(self)", "breaks(self, lattice)"]],
    "spreads": ["five_of(lattice)", "downset_order(downs)", "spread_of(lattice)"],
    "rules": ["closure_of(rules, marks)", "follows(rules, rule)", "why_of(rules, marks, mark)",
              "closed_sets(many, rules)"],
    "bases": ["base_of(rules)"],
    "tables": ["shared_by(rows, many, things)", "having(rows, marks)", "pairs_of(rows, many)", "pair_order(told)",
               "rules_of(rows, many)", "table_of(many, rules)"],
    "completes": ["table_back(lattice)", "completed(downs)"],
}


def some_small_orders():
    return all_orders(3) + grown_orders(4) + grown_orders(5)[::3] + list(some_orders([2, 3, 5, 7]))


def large_orders():
    chance = random.Random(131)
    told = [chain(128), all_beside(128), by_inclusion(range(128)), fan(126), by_inclusion(downsets_of(all_beside(6)))]
    return told + [shuffled(chance, downs) for downs in told] + list(some_orders([64, 128]))


def two_rows_or_none(downs):
    try:
        return two_rows(downs)
    except NoTwoRows:
        return None


def standard(many):
    """Each upper thing above all of the lower ones but the one across."""
    return order_of(2 * many, [(a, many + b) for a, b in itertools.permutations(range(many), 2)])


class Interface(unittest.TestCase):
    def test_names_and_arguments(self):
        for name, told in INTERFACE.items():
            module = importlib.import_module("orderhall." + name)
            for words in told:
                path, arguments = words.rstrip(")").split("(")
                found = module
                for part in path.split("."):
                    found = getattr(found, part)
                self.assertEqual(list(inspect.signature(found).parameters), arguments.split(", ") if arguments else [])

    def test_every_error_is_defined_in_errors(self):
        for name in list(INTERFACE) + ["errors"]:
            module = importlib.import_module("orderhall." + name)
            for word, kind in inspect.getmembers(module, inspect.isclass):
                if issubclass(kind, Exception):
                    self.assertTrue(issubclass(kind, OrderError), word)
                    self.assertEqual(kind.__module__, "orderhall.errors")


class OrdersAndCovers(OrderCase):
    def test_the_covers_make_the_order_again(self):
        for downs in some_small_orders() + large_orders():
            self.assertEqual(order_of(len(downs), covers_of(downs)), downs)

    def test_with_fewer_pairs_they_do_not(self):
        for downs in some_small_orders():
            covers = covers_of(downs)
            for pair in covers:
                self.assertNotEqual(order_of(len(downs), [other for other in covers if other != pair]), downs)

    def test_turned_over(self):
        for downs in some_small_orders() + large_orders():
            turned = sorted((high, low) for low, high in covers_of(downs))
            self.assertEqual(covers_of(turned_over(downs)), turned)

    def test_covers_turned_about_make_a_ring(self):
        for low, high in covers_of(diamond()):
            with self.assertRaises(Ring) as taken:
                order_of(4, covers_of(diamond()) + [(high, low)])
            self.assertEqual(sorted(taken.exception.things), sorted([low, high]))


class ChainsAndThingsBeside(OrderCase):
    def test_as_many_chains_as_things_beside(self):
        for downs in some_small_orders() + large_orders():
            chains = chains_of(downs)
            row = most_beside(downs)
            self.assertEqual(len(chains), len(row))
            self.assertTrue(all(beside(downs, one, other) for one, other in itertools.combinations(row, 2)))
            self.assertEqual([len(set(row) & set(steps)) for steps in chains], [1] * len(chains))

    def test_as_many_layers_as_things_in_a_chain(self):
        for downs in some_small_orders() + large_orders():
            layers = layers_of(downs)
            longest = longest_of(downs)
            self.assertEqual([len(set(longest) & set(layer)) for layer in layers], [1] * len(layers))

    def test_ties_and_chains(self):
        for downs in some_small_orders():
            ties = [sum(2 ** high for high in range(len(downs)) if lies_below(downs, low, high))
                    for low in range(len(downs))]
            taken = [right for right in matched(ties) if right is not None]
            lefts, rights = touched(ties)
            self.assertEqual(len(taken), many_in(lefts) + many_in(rights))
            self.assertEqual(len(chains_of(downs)), len(downs) - len(taken))


class DownsetsAndLattices(OrderCase):
    def test_over_and_under_are_all_of_both_and_the_shared(self):
        for downs in all_orders(3) + grown_orders(4) + [all_beside(7), chain(10)]:
            downsets = downsets_of(downs)
            lattice = lattice_of(downset_order(downs))
            self.assertEqual((lattice.bottom(), lattice.top()), (0, len(downsets) - 1))
            for one, other in itertools.product(range(len(downsets)), repeat=2):
                self.assertEqual(downsets[lattice.over(one, other)], downsets[one] | downsets[other])
                self.assertEqual(downsets[lattice.under(one, other)], downsets[one] & downsets[other])
                self.assertEqual(lattice.below(one, other), within(downsets[one], downsets[other]))

    def test_each_way_is_a_longest_chain_of_downsets(self):
        for downs in grown_orders(4):
            downsets = downsets_of(downs)
            order = downset_order(downs)
            self.assertEqual(len(layers_of(order)), len(downs) + 1)
            for number in range(ways_in(downs)):
                row = way_at(downs, number)
                self.assertEqual(number_of(downs, row), number)
                steps = [downsets.index(bits_of(row[:length])) for length in range(len(row) + 1)]
                self.assertTrue(all(lies_below(order, low, high) for low, high in zip(steps, steps[1:])))

    def test_as_many_next_below_a_downset_as_things_beside(self):
        for downs in grown_orders(5)[::4]:
            lattice = lattice_of(downset_order(downs))
            highs = [high for low, high in covers_of(lattice.order())]
            self.assertEqual(max(highs.count(high) for high in highs), len(most_beside(downs)))


class SpreadsAndDownsets(OrderCase):
    def test_the_order_comes_back(self):
        for downs in some_small_orders():
            lattice = lattice_of(downset_order(downs))
            self.assertIsNone(five_of(lattice))
            parts, order, forms = spread_of(lattice)
            downsets = downsets_of(downs)
            things = [downs.index(downsets[part]) for part in parts]
            self.assertEqual(sorted(things), list(range(len(downs))))
            self.assertEqual(order, part_of(downs, things))
            self.assertEqual([bits_of([things[k] for k in places_of(form)]) for form in forms], downsets)

    def test_the_lattice_comes_back(self):
        for downs in small_lattices() + some_lattices():
            lattice = lattice_of(downs)
            if "spreading" in looks_kept(lattice):
                parts, order, forms = spread_of(lattice)
                downsets = downsets_of(order)
                self.assertEqual(part_of(downset_order(order), [downsets.index(form) for form in forms]), downs)

    def test_spreading_lattices_have_as_many_low_as_high_parts(self):
        for downs in small_lattices() + some_lattices():
            lattice = lattice_of(downs)
            if five_of(lattice) is None:
                self.assertEqual(len(low_parts(lattice)), len(high_parts(lattice)))
                self.assertEqual(len(longest_of(downs)), len(low_parts(lattice)) + 1)


class BasesOfTablesAndRules(OrderCase):
    def test_the_rules_of_a_table_of_rules(self):
        for many in range(8):
            for rules in some_rule_lists(many, 25):
                rows = table_of(many, rules)
                self.assertEqual(rules_of(rows, many), base_of(rules))
                marks_told = sorted(marks for things, marks in pairs_of(rows, many))
                self.assertEqual(closed_sets(many, rules), marks_told)

    def test_the_table_of_the_rules_of_a_table(self):
        chance = random.Random(137)
        for number in range(60):
            many = chance.randint(0, 7)
            rows = [chance.randrange(2 ** many) for thing in range(chance.randint(0, 9))]
            rules = rules_of(rows, many)
            fewest = table_of(many, rules)
            self.assertTrue(set(fewest) <= set(rows))
            self.assertEqual(rules_of(fewest, many), rules)
            self.assertEqual(table_of(many, base_of(rules)), fewest)
            self.assertEqual(len(pairs_of(fewest, many)), len(pairs_of(rows, many)))

    def test_closures_are_what_the_things_share(self):
        chance = random.Random(139)
        for number in range(30):
            many = chance.randint(1, 7)
            rows = [chance.randrange(2 ** many) for thing in range(chance.randint(0, 9))]
            rules = rules_of(rows, many)
            for marks in range(2 ** many):
                closure = closure_of(rules, marks)
                self.assertEqual(closure, shared_by(rows, many, having(rows, marks)))
                self.assertTrue(follows(rules, (marks, closure)))
                for mark in range(many):
                    self.assertEqual(why_of(rules, marks, mark) is None, not within(1 << mark, closure))


class TablesBackAndPairs(OrderCase):
    def test_the_pairs_make_the_lattice_again(self):
        for downs in small_lattices() + [by_inclusion(range(128)), fan(7), chain(8)]:
            lattice = lattice_of(downs)
            rows, many = table_back(lattice)
            told = pairs_of(rows, many)
            lows = low_parts(lattice)
            highs = high_parts(lattice)
            xs = [all_over(lattice, [lows[k] for k in places_of(things)]) for things, marks in told]
            self.assertEqual(xs, [all_under(lattice, [highs[k] for k in places_of(marks)]) for things, marks in told])
            self.assertEqual(sorted(xs), list(range(len(downs))))
            self.assertEqual(pair_order(told), part_of(downs, xs))

    def test_the_table_of_the_pairs_is_as_small(self):
        for downs in small_lattices(6):
            rows, many = table_back(lattice_of(downs))
            again = lattice_of(pair_order(pairs_of(rows, many)))
            self.assertEqual((len(table_back(again)[0]), table_back(again)[1]), (len(rows), many))
            self.assertEqual(len(table_of(many, rules_of(rows, many))), len(low_parts(again)))

    def test_the_looks_are_kept(self):
        for downs in small_lattices(6):
            lattice = lattice_of(downs)
            again = lattice_of(pair_order(pairs_of(*table_back(lattice))))
            self.assertEqual(looks_kept(again), looks_kept(lattice))


class CompletedAndTwoRows(OrderCase):
    def test_two_rows_tell_both_or_neither(self):
        told = {True: 0, False: 0}
        chance = random.Random(149)
        orders = some_small_orders() + [standard(3), shuffled(chance, standard(3)), bounded(standard(3))[:-1]]
        orders += [shuffled(chance, downs) for downs in chance.sample(grown_orders(6), 300)]
        for downs in orders:
            order, where = completed(downs)
            if len(order) <= 32:
                rows = two_rows_or_none(downs)
                self.assertEqual(rows is None, two_rows_or_none(order) is None, downs)
                told[rows is None] += 1
        self.assertGreater(told[True], 2)
        self.assertGreater(told[False], 200)

    def test_the_rows_of_the_lattice_tell_the_order(self):
        for downs in some_small_orders():
            order, where = completed(downs)
            rows = two_rows_or_none(order) if len(order) <= 32 else None
            if rows is not None:
                self.assertEqual(order_by(list(rows)), order)
                parts = [[where.index(thing) for thing in row if thing in where] for row in rows]
                self.assertEqual(order_by(parts), downs)

    def test_a_lattice_completed_is_the_same(self):
        for downs in small_lattices():
            order, where = completed(downs)
            self.assertEqual(part_of(order, where), downs)

    def test_the_table_of_a_completed_order(self):
        for downs in [[]] + all_orders(3) + grown_orders(5)[::3]:
            order, where = completed(downs)
            lattice = lattice_of(order)
            self.assertTrue(set(low_parts(lattice)) <= set(where))
            self.assertTrue(set(high_parts(lattice)) <= set(where))
            self.assertEqual(part_of(order, where), downs)
            rows, many = table_back(lattice)
            self.assertEqual(len(pairs_of(rows, many)), len(order))


class Lattices(OrderCase):
    def test_turned_over(self):
        for downs in small_lattices(6) + some_lattices(10):
            lattice = lattice_of(downs)
            turned = lattice_of(turned_over(downs))
            self.assertEqual((turned.bottom(), turned.top()), (lattice.top(), lattice.bottom()))
            self.assertEqual(low_parts(turned), high_parts(lattice))
            for one, other in itertools.product(range(len(downs)), repeat=2):
                self.assertEqual(turned.over(one, other), lattice.under(one, other))
            self.assertEqual(looks_kept(turned), looks_kept(lattice))

    def test_each_lattice_lies_in_the_downsets_of_its_low_parts(self):
        for downs in [ladder(), fan(3), bounded(ladder())]:
            lattice = lattice_of(downs)
            lows = low_parts(lattice)
            downsets = downsets_of(part_of(downs, lows))
            forms = [bits_of([k for k, low in enumerate(lows) if lattice.below(low, x)]) for x in range(len(downs))]
            self.assertTrue(set(forms) < set(downsets))
            self.assertEqual(by_inclusion(forms), downs)


if __name__ == "__main__":
    unittest.main()
