"""What the tests share: orders to ask of, point 3 told word by word, and the looks at refusals and at point 1."""

import copy
import itertools
import random
import unittest

from orderhall import errors
from orderhall.orders import order_of

HUGE = 10 ** 60 - 1
STRANGE = [-1, -2, -128, -HUGE, HUGE, 10 ** 59, 2 ** 64]
REFUSALS = [errors.TooMany, errors.NoThing, errors.Ring, errors.NoWay, errors.NoTwoRows, errors.NoLattice,
            errors.NotSpreading]


def lies_below(downs, low, high):
    return low != high and downs[high] >> low & 1 == 1


def joined(downs, one, other):
    return lies_below(downs, one, other) or lies_below(downs, other, one)


def beside(downs, one, other):
    return one != other and not joined(downs, one, other)


def is_order_plainly(downs):
    """Point 3, word by word."""
    many = len(downs)
    things = range(many)
    if any(not 0 <= down < 2 ** many for down in downs) or any(downs[k] >> k & 1 == 0 for k in things):
        return False
    below = {(j, k) for j in things for k in things if lies_below(downs, j, k)}
    if any((k, j) in below for j, k in below):
        return False
    return all((j, m) in below for j, k in below for other, m in below if k == other)


def all_orders(many):
    lists = itertools.product(range(2 ** many), repeat=many)
    return [list(downs) for downs in lists if is_order_plainly(downs)]


def grown_orders(many):
    """All orders in which no thing lies below one of a lesser number: every order, but for the names of its things."""
    orders = [[]]
    for thing in range(many):
        orders = [downs + [2 ** thing + bits] for downs in orders for bits in range(2 ** thing)
                  if all(downs[low] | bits == bits for low in range(thing) if bits >> low & 1)]
    return orders


def some_pairs(chance, many, count):
    """Pairs without a ring: each goes up in one shuffled row of the things."""
    row = list(range(many))
    chance.shuffle(row)
    return [tuple(row[place] for place in sorted(chance.sample(range(many), 2))) for number in range(count)]


def some_orders(sizes=(2, 3, 5, 8, 13, 20)):
    chance = random.Random(7)
    for many in sizes:
        for count in [0, 1, many, 2 * many]:
            yield order_of(many, some_pairs(chance, many, count))


def chain(many):
    return [2 ** (k + 1) - 1 for k in range(many)]


def all_beside(many):
    return [2 ** k for k in range(many)]


def diamond():
    return [1, 3, 5, 15]


def lists_in(value):
    """All lists within lists and tuples, the value itself too."""
    found = [value] if isinstance(value, list) else []
    if isinstance(value, (list, tuple)):
        for part in value:
            found += lists_in(part)
    return found


def spoil(value):
    for part in lists_in(value):
        part.reverse()
        part.append(99)
        part[0] = 77


class OrderCase(unittest.TestCase):
    def refused(self, kind, asked, *given):
        """The refusal: of just this class, and with all that was handed in left as it was."""
        kept = copy.deepcopy(given)
        with self.assertRaises(kind) as taken:
            asked(*given)
        self.assertIs(type(taken.exception), kind)
        self.assertIsInstance(taken.exception, errors.OrderError)
        self.assertIsInstance(taken.exception, ValueError)
        self.assertEqual([other for other in REFUSALS if isinstance(taken.exception, other)], [kind])
        self.assertEqual(given, kept)
        return taken.exception


class HandedInAndTold:
    """Point 1: what is handed in stays, what is told is the asker's own. Laid under a case that has asked()."""

    def test_what_is_handed_in_stays(self):
        for function, given in self.asked():
            kept = copy.deepcopy(given)
            function(*given)
            self.assertEqual(given, kept)

    def test_no_list_told_was_handed_in(self):
        for function, given in self.asked():
            handed_in = [id(part) for part in lists_in(given)]
            for part in lists_in(function(*given)):
                self.assertNotIn(id(part), handed_in)

    def test_no_list_is_told_twice_in_one_answer(self):
        for function, given in self.asked():
            told = [id(part) for part in lists_in(function(*given))]
            self.assertEqual(len(told), len(set(told)))

    def test_changing_what_was_told_changes_nothing_later(self):
        for function, given in self.asked():
            told = function(*given)
            kept = copy.deepcopy(told)
            spoil(told)
            self.assertEqual(function(*given), kept)

    def test_changing_what_was_handed_in_changes_nothing_told(self):
        for function, given in self.asked():
            told = function(*given)
            kept = copy.deepcopy(told)
            again = copy.deepcopy(given)
            spoil(given)
            self.assertEqual(told, kept)
            self.assertEqual(function(*again), kept)

    def test_the_same_question_has_the_same_answer(self):
        for function, given in self.asked():
            told = [function(*copy.deepcopy(given)) for time in range(3)]
            self.assertEqual(told, [told[0]] * 3)
