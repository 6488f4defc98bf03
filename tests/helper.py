"""What the tests share: orders to ask of, point 3 told word by word, and the looks at refusals and at point 1."""

import copy
import functools
import itertools
import operator
import random
import unittest

from orderhall import errors
from orderhall.orders import order_of

HUGE = 10 ** 60 - 1
STRANGE = [-1, -2, -128, -HUGE, HUGE, 10 ** 59, 2 ** 64]
REFUSALS = [errors.TooMany, errors.NoThing, errors.Ring, errors.NoWay, errors.NoTwoRows, errors.NoLattice,
            errors.NotSpreading]


def lies_below(downs, low, high):
    return low != high and downs[high] >> low & 1 == 1


def joined(downs, one, other):
    return lies_below(downs, one, other) or lies_below(downs, other, one)


def beside(downs, one, other):
    return one != other and not joined(downs, one, other)


def is_order_plainly(downs):
    """Point 3, word by word."""
    many = len(downs)
    things = range(many)
    if any(not 0 <= down < 2 ** many for down in downs) or any(downs[k] >> k & 1 == 0 for k in things):
        return False
    below = {(j, k) for j in things for k in things if lies_below(downs, j, k)}
    if any((k, j) in below for j, k in below):
        return False
    return all((j, m) in below for j, k in below for other, m in below if k == other)


def all_orders(many):
    lists = itertools.product(range(2 ** many), repeat=many)
    return [list(downs) for downs in lists if is_order_plainly(downs)]


def grown_orders(many):
    """All orders in which no thing lies below one of a lesser number: every order, but for the names of its things."""
    orders = [[]]
    for thing in range(many):
        orders = [downs + [2 ** thing + bits] for downs in orders for bits in range(2 ** thing)
                  if all(downs[low] | bits == bits for low in range(thing) if bits >> low & 1)]
    return orders


def some_pairs(chance, many, count):
    """Pairs without a ring: each goes up in one shuffled row of the things."""
    row = list(range(many))
    chance.shuffle(row)
    return [tuple(row[place] for place in sorted(chance.sample(range(many), 2))) for number in range(count)]


def some_orders(sizes=(2, 3, 5, 8, 13, 20)):
    chance = random.Random(7)
    for many in sizes:
        for count in [0, 1, many, 2 * many]:
            yield order_of(many, some_pairs(chance, many, count))


def chain(many):
    return [2 ** (k + 1) - 1 for k in range(many)]


def all_beside(many):
    return [2 ** k for k in range(many)]


def diamond():
    return [1, 3, 5, 15]


def downsets_plainly(downs):
    """Point 15, word by word, of all sets."""
    pairs = [pair for pair in itertools.product(range(len(downs)), repeat=2) if lies_below(downs, *pair)]
    return [bits for bits in range(2 ** len(downs))
            if all(bits >> low & 1 for low, high in pairs if bits >> high & 1)]


def bounded(downs):
    """The order between a new bottom, with the number 0, and a new top, with the last number."""
    return [1] + [1 + 2 * down for down in downs] + [2 ** (len(downs) + 2) - 1]


def ladder():
    return [1, 3, 7, 9, 31]


def fan(many):
    return bounded(all_beside(many))


def by_inclusion(sets):
    return [sum(2 ** k for k, low in enumerate(sets) if low & high == low) for high in sets]


def renamed(downs, names):
    """The same order, in which the thing k bears the number names[k]."""
    told = [0] * len(downs)
    for high, down in enumerate(downs):
        told[names[high]] = sum(2 ** names[low] for low in range(len(downs)) if down >> low & 1)
    return told


def shuffled(chance, downs):
    return renamed(downs, chance.sample(range(len(downs)), len(downs)))


def at_or_below(downs, low, high):
    return low == high or lies_below(downs, low, high)


def shared_above(downs, one, other):
    return [k for k in range(len(downs)) if at_or_below(downs, one, k) and at_or_below(downs, other, k)]


def shared_below(downs, one, other):
    return [k for k in range(len(downs)) if at_or_below(downs, k, one) and at_or_below(downs, k, other)]


def over_plainly(downs, one, other):
    """Point 27: the least one at or above both, or None."""
    both = shared_above(downs, one, other)
    return next((x for x in both if all(at_or_below(downs, x, y) for y in both)), None)


def under_plainly(downs, one, other):
    """Point 27: the greatest one at or below both, or None."""
    both = shared_below(downs, one, other)
    return next((x for x in both if all(at_or_below(downs, y, x) for y in both)), None)


def is_lattice_plainly(downs):
    pairs = list(itertools.combinations(range(len(downs)), 2))
    return len(downs) > 0 and all(over_plainly(downs, *pair) is not None for pair in pairs) and all(
        under_plainly(downs, *pair) is not None for pair in pairs)


def small_lattices(most=7):
    """All lattices of at most so many things, but for the names of their things: each with its first names as they
    grew, and with shuffled ones."""
    chance = random.Random(23)
    orders = [chain(1)] + [bounded(downs) for many in range(most - 1) for downs in grown_orders(many)]
    told = []
    for downs in orders:
        if is_lattice_plainly(downs):
            told += [downs, shuffled(chance, downs)]
    return told


def some_lattices(count=40, marks=5, sets=6):
    """Lattices of sets of marks, closed under what they have in common, under shuffled names."""
    chance = random.Random(29)
    told = []
    for number in range(count):
        found = {2 ** marks - 1}
        for bits in chance.sample(range(2 ** marks), sets):
            found |= {bits & other for other in found}
        told.append(shuffled(chance, by_inclusion(sorted(found))))
    return told


def within_plainly(one, other):
    return one | other == other


def is_closed_plainly(rules, bits):
    """Point 36, word by word."""
    return all(within_plainly(give, bits) for need, give in rules if within_plainly(need, bits))


def closed_plainly(many, rules):
    return [bits for bits in range(2 ** many) if is_closed_plainly(rules, bits)]


def least_of(sets, bits):
    """What all the sets that hold bits have in common; None where there are none."""
    holding = [other for other in sets if within_plainly(bits, other)]
    return functools.reduce(operator.and_, holding) if holding else None


def restless_plainly(many, closed):
    """Point 40, word by word, of all sets of marks from the least up, each with its closure."""
    told = {}
    for bits in sorted(range(2 ** many), key=lambda bits: (bin(bits).count("1"), bits)):
        inner = [closure for other, closure in told.items() if within_plainly(other, bits)]
        if bits not in closed and all(within_plainly(closure, bits) for closure in inner):
            told[bits] = least_of(closed, bits)
    return sorted(told.items())


def some_rules(chance, many, count, needs=2, gives=2):
    """Rules of a few marks each, some with none in need or in give."""
    def some_marks(most):
        return sum(2 ** mark for mark in chance.sample(range(many), min(many, chance.randint(0, most))))

    return [(some_marks(needs), some_marks(gives)) for number in range(count)]


def some_rule_lists(many, count=60):
    chance = random.Random(67)
    return [some_rules(chance, many, chance.randint(0, 6), needs=3) for number in range(count)]


def families(many):
    """All lists of sets of so many marks that can be the closed sets of rules: with the set of all, and with what any
    two of them share."""
    everything = 2 ** many - 1
    told = []
    for picked in range(2 ** everything):
        sets = [bits for bits in range(everything) if picked >> bits & 1] + [everything]
        if all(one & other in sets for one, other in itertools.combinations(sets, 2)):
            told.append(sets)
    return told


def full_rules(many, closed):
    """Rules with just these closed sets: each set of marks with its closure."""
    return [(bits, least_of(closed, bits)) for bits in range(2 ** many)]


def chained_rules(first, last):
    """From each mark to the next."""
    return [(2 ** mark, 2 ** (mark + 1)) for mark in range(first, last)]


def lists_in(value):
    """All lists within lists and tuples, the value itself too."""
    found = [value] if isinstance(value, list) else []
    if isinstance(value, (list, tuple)):
        for part in value:
            found += lists_in(part)
    return found


def spoil(value):
    for part in lists_in(value):
        part.reverse()
        part.append(99)
        part[0] = 77


class OrderCase(unittest.TestCase):
    def refused(self, kind, asked, *given):
        """The refusal: of just this class, and with all that was handed in left as it was."""
        kept = copy.deepcopy(given)
        with self.assertRaises(kind) as taken:
            asked(*given)
        self.assertIs(type(taken.exception), kind)
        self.assertIsInstance(taken.exception, errors.OrderError)
        self.assertIsInstance(taken.exception, ValueError)
        self.assertEqual([other for other in REFUSALS if isinstance(taken.exception, other)], [kind])
        self.assertEqual(given, kept)
        return taken.exception


class HandedInAndTold:
    """Point 1: what is handed in stays, what is told is the asker's own. Laid under a case that has asked()."""

    def test_what_is_handed_in_stays(self):
        for function, given in self.asked():
            kept = copy.deepcopy(given)
            function(*given)
            self.assertEqual(given, kept)

    def test_no_list_told_was_handed_in(self):
        for function, given in self.asked():
            handed_in = [id(part) for part in lists_in(given)]
            for part in lists_in(function(*given)):
                self.assertNotIn(id(part), handed_in)

    def test_no_list_is_told_twice_in_one_answer(self):
        for function, given in self.asked():
            told = [id(part) for part in lists_in(function(*given))]
            self.assertEqual(len(told), len(set(told)))

    def test_changing_what_was_told_changes_nothing_later(self):
        for function, given in self.asked():
            told = function(*given)
            kept = copy.deepcopy(told)
            spoil(told)
            self.assertEqual(function(*given), kept)

    def test_changing_what_was_handed_in_changes_nothing_told(self):
        for function, given in self.asked():
            told = function(*given)
            kept = copy.deepcopy(told)
            again = copy.deepcopy(given)
            spoil(given)
            self.assertEqual(told, kept)
            self.assertEqual(function(*again), kept)

    def test_the_same_question_has_the_same_answer(self):
        for function, given in self.asked():
            told = [function(*copy.deepcopy(given)) for time in range(3)]
            self.assertEqual(told, [told[0]] * 3)
