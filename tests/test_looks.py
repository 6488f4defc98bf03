"""Points 1, 31 and 32: the looks at lattices."""

import copy
import inspect
import itertools
import random
import unittest

from helper import (OrderCase, at_or_below, by_inclusion, bounded, chain, diamond, fan, ladder, over_plainly, renamed,
                    shuffled, small_lattices, some_lattices, spoil, under_plainly)
from orderhall import looks
from orderhall.lattices import lattice_of
from orderhall.looks import Balanced, Look, Paired, Single, Spreading, all_looks, looks_kept
from orderhall.orders import turned_over

CLASSES = [Balanced, Spreading, Paired, Single]
WORDS = ["balanced", "spreading", "paired", "single"]


class Plainly:
    """Point 31, word by word: for each word the first tuple, as ascending tuples go, at which an order breaks."""

    def __init__(self, downs):
        self.downs = downs
        self.things = range(len(downs))
        pairs = list(itertools.product(self.things, repeat=2))
        self.overs = {pair: over_plainly(downs, *pair) for pair in pairs}
        self.unders = {pair: under_plainly(downs, *pair) for pair in pairs}
        ends = [k for k in self.things if all(at_or_below(downs, k, other) for other in self.things)]
        self.bottom = ends[0]
        ends = [k for k in self.things if all(at_or_below(downs, other, k) for other in self.things)]
        self.top = ends[0]

    def partners(self, a):
        return [b for b in self.things if self.overs[a, b] == self.top and self.unders[a, b] == self.bottom]

    def balanced(self, a, b, c):
        return at_or_below(self.downs, a, c) and self.overs[a, self.unders[b, c]] != self.unders[self.overs[a, b], c]

    def spreading(self, a, b, c):
        return self.unders[a, self.overs[b, c]] != self.overs[self.unders[a, b], self.unders[a, c]]

    def paired(self, a):
        return not self.partners(a)

    def single(self, a, b, c):
        return b < c and b in self.partners(a) and c in self.partners(a)

    def breaks(self, word):
        long = 1 if word == "paired" else 3
        asked = getattr(self, word)
        return next((found for found in itertools.product(self.things, repeat=long) if asked(*found)), None)


def times(one, other):
    """Pairs of things of both orders, one at or below another where both its things are."""
    places = list(itertools.product(range(len(one)), range(len(other))))
    return [sum(2 ** k for k, (a, b) in enumerate(places) if at_or_below(one, a, c) and at_or_below(other, b, d))
            for c, d in places]


def middling_lattices():
    chance = random.Random(53)
    told = [times(fan(3), chain(3)), times(ladder(), chain(2)), by_inclusion(range(16)), times(fan(3), diamond()),
            times(chain(3), chain(5)), bounded(ladder()), bounded(fan(3)), fan(9)]
    return told + [shuffled(chance, downs) for downs in told]


def on_a_chain(downs, many):
    """The order laid upon a chain, 128 things in all where it has the rest."""
    return chain(many) + [2 ** many - 1 + 2 ** many * down for down in downs]


class Classes(unittest.TestCase):
    def test_all_stand_under_look(self):
        for kind in CLASSES:
            self.assertTrue(issubclass(kind, Look))
            self.assertIsNot(kind, Look)

    def test_none_of_the_four_stands_under_another(self):
        for kind, other in itertools.permutations(CLASSES, 2):
            self.assertFalse(issubclass(kind, other))

    def test_no_other_look(self):
        found = [kind for name, kind in inspect.getmembers(looks, inspect.isclass) if issubclass(kind, Look)]
        self.assertEqual(sorted(kind.__name__ for kind in found), ["Balanced", "Look", "Paired", "Single", "Spreading"])

    def test_words(self):
        self.assertEqual([kind().named() for kind in CLASSES], WORDS)
        for kind in CLASSES:
            self.assertIs(type(kind().named()), str)


class Breaks(OrderCase):
    def told(self, downs):
        lattice = lattice_of(downs)
        told = [kind().breaks(lattice) for kind in CLASSES]
        for found in told:
            self.assertTrue(found is None or type(found) is tuple)
        return told

    def test_one_thing(self):
        self.assertEqual(self.told([1]), [None, None, None, None])

    def test_chains(self):
        self.assertEqual(self.told(chain(2)), [None, None, None, None])
        self.assertEqual(self.told(chain(3)), [None, None, (1,), None])
        self.assertEqual(self.told(turned_over(chain(7))), [None, None, (1,), None])
        self.assertEqual(self.told(renamed(chain(3), [1, 0, 2])), [None, None, (0,), None])
        self.assertEqual(self.told(chain(128)), [None, None, (1,), None])

    def test_all_sets_of_some_marks(self):
        for marks in range(8):
            self.assertEqual(self.told(by_inclusion(range(2 ** marks))), [None, None, None, None])

    def test_fans(self):
        self.assertEqual(self.told(fan(2)), [None, None, None, None])
        for many in [3, 4, 20, 126]:
            self.assertEqual(self.told(fan(many)), [None, (1, 2, 3), None, (1, 2, 3)])

    def test_the_ladder(self):
        self.assertEqual(self.told(ladder()), [(1, 3, 2), (2, 1, 3), None, (3, 1, 2)])
        self.assertEqual(self.told(renamed(ladder(), [4, 2, 3, 0, 1])), [(2, 0, 3), (3, 0, 2), None, (0, 2, 3)])

    def test_every_name_of_small_ones(self):
        for downs in [chain(3), diamond(), fan(3), ladder()]:
            for names in itertools.permutations(range(len(downs))):
                order = renamed(downs, names)
                self.assertEqual(self.told(order), [Plainly(order).breaks(word) for word in WORDS], order)

    def test_against_all_tuples(self):
        for downs in small_lattices() + some_lattices() + middling_lattices():
            plain = Plainly(downs)
            self.assertEqual(self.told(downs), [plain.breaks(word) for word in WORDS], downs)

    def test_a_break_among_the_last_of_128(self):
        for downs in [ladder(), fan(3)]:
            raised = [None if found is None else tuple(k + 123 for k in found) for found in self.told(downs)]
            self.assertEqual(self.told(on_a_chain(downs, 123))[:2], raised[:2])
            self.assertEqual(self.told(on_a_chain(downs, 123))[2:], [(1,), None])

    def test_the_same_question_has_the_same_answer(self):
        lattice = lattice_of(ladder())
        for look in all_looks():
            self.assertEqual([look.breaks(lattice) for time in range(3)], [type(look)().breaks(lattice)] * 3)

    def test_a_look_keeps_nothing_of_a_lattice(self):
        for look in all_looks():
            kept = look.breaks(lattice_of(ladder()))
            for downs in [[1], fan(3), chain(3)]:
                look.breaks(lattice_of(downs))
            self.assertEqual(look.breaks(lattice_of(ladder())), kept)

    def test_asking_leaves_the_lattice(self):
        for downs in [[1], ladder(), fan(4), by_inclusion(range(8))]:
            lattice = lattice_of(downs)
            kept = copy.deepcopy(vars(lattice))
            self.told(downs)
            looks_kept(lattice)
            for look in all_looks():
                look.breaks(lattice)
            self.assertEqual(vars(lattice), kept)
            self.assertEqual(lattice.order(), downs)


class AllLooks(OrderCase):
    def test_one_of_each_in_this_order(self):
        self.assertIs(type(all_looks()), list)
        self.assertEqual([type(look) for look in all_looks()], CLASSES)
        self.assertEqual([look.named() for look in all_looks()], WORDS)

    def test_it_is_the_askers_own(self):
        told = all_looks()
        spoil(told)
        self.assertEqual([type(look) for look in all_looks()], CLASSES)


class LooksKept(OrderCase):
    def test_ordinary(self):
        self.assertEqual(looks_kept(lattice_of([1])), WORDS)
        self.assertEqual(looks_kept(lattice_of(by_inclusion(range(128)))), WORDS)
        self.assertEqual(looks_kept(lattice_of(chain(128))), ["balanced", "spreading", "single"])
        self.assertEqual(looks_kept(lattice_of(fan(3))), ["balanced", "paired"])
        self.assertEqual(looks_kept(lattice_of(ladder())), ["paired"])
        self.assertEqual(looks_kept(lattice_of(bounded(ladder()))), ["single"])

    def test_against_all_tuples(self):
        for downs in small_lattices(6) + some_lattices() + middling_lattices():
            plain = Plainly(downs)
            told = looks_kept(lattice_of(downs))
            self.assertIs(type(told), list)
            self.assertEqual(told, [word for word in WORDS if plain.breaks(word) is None])

    def test_spreading_ones_are_balanced(self):
        for downs in small_lattices() + some_lattices() + middling_lattices():
            told = looks_kept(lattice_of(downs))
            if "spreading" in told:
                self.assertIn("balanced", told)
                self.assertIn("single", told)

    def test_it_is_the_askers_own(self):
        lattice = lattice_of(ladder())
        spoil(looks_kept(lattice))
        self.assertEqual(looks_kept(lattice), ["paired"])


if __name__ == "__main__":
    unittest.main()
