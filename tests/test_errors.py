"""Point 5 and the interface of orderhall.errors."""

import unittest

from orderhall import errors

NAMES = ["TooMany", "NoThing", "Ring", "NoWay", "NoTwoRows", "NoLattice", "NotSpreading"]


class ErrorClasses(unittest.TestCase):
    def test_all_stand_straight_under_order_error(self):
        self.assertEqual(errors.OrderError.__bases__, (ValueError,))
        for name in NAMES:
            self.assertEqual(getattr(errors, name).__bases__, (errors.OrderError,), name)

    def test_none_stands_above_another(self):
        for name in NAMES:
            for other in NAMES:
                told = issubclass(getattr(errors, name), getattr(errors, other))
                self.assertEqual(told, name == other, (name, other))

    def test_each_can_be_raised_and_taken(self):
        made = [
            errors.TooMany("words"), errors.NoThing("words"), errors.Ring([0]), errors.NoWay("words"),
            errors.NoTwoRows([(0, 1), (1, 0)]), errors.NoLattice("over", 0, 1, []), errors.NotSpreading("fan", [0] * 5),
        ]
        for name, error in zip(NAMES, made, strict=True):
            self.assertIs(type(error), getattr(errors, name))
            for above in [type(error), errors.OrderError, ValueError]:
                with self.assertRaises(above):
                    raise error


class ErrorFields(unittest.TestCase):
    def test_ring(self):
        self.assertEqual(errors.Ring([2, 0]).things, [2, 0])

    def test_no_two_rows(self):
        self.assertEqual(errors.NoTwoRows([(0, 1), (1, 0)]).walk, [(0, 1), (1, 0)])

    def test_no_lattice(self):
        error = errors.NoLattice("under", 3, 4, [])
        self.assertEqual((error.word, error.one, error.other, error.nearest), ("under", 3, 4, []))
        self.assertEqual(errors.NoLattice("over", 0, 1, [2, 3]).nearest, [2, 3])

    def test_not_spreading(self):
        error = errors.NotSpreading("ladder", [0, 1, 2, 3, 4])
        self.assertEqual((error.word, error.five), ("ladder", [0, 1, 2, 3, 4]))

    def test_fields_are_lists_of_their_own(self):
        row = [1, 2]
        made = [errors.Ring(row), errors.NoTwoRows(row), errors.NoLattice("over", 0, 1, row),
                errors.NotSpreading("fan", row)]
        row.append(3)
        told = [made[0].things, made[1].walk, made[2].nearest, made[3].five]
        self.assertEqual(told, [[1, 2]] * 4)


if __name__ == "__main__":
    unittest.main()
