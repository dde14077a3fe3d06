"""[2]: bags with weights, their sums, differences, products, order and spreading."""

import random
import unittest

from streamstack.bags import Bag, row_rank, same_bags, value_rank
from streamstack.errors import RowError


class Weights(unittest.TestCase):
    def test_rows_are_handed_in_as_pairs(self):
        bag = Bag((((1,), 2), (("a",), -1), ((1,), 3), ((2,), 0), ((3,), 1), ((3,), -1)))
        self.assertEqual(bag.weights, {(1,): 5, ("a",): -1})
        self.assertEqual([bag.weight(row) for row in ((1,), ("a",), (2,), (3,))], [5, -1, 0, 0])

    def test_weights_that_become_0_are_gone(self):
        bag = Bag()
        bag.add((1,))
        bag.add((1,), 2)
        self.assertEqual(bag.weights, {(1,): 3})
        bag.add((1,), -3)
        self.assertEqual(bag.weights, {})
        bag.add((1,), 0)
        self.assertEqual(bag.weights, {})
        bag.add((1,), -2)
        bag.add((1,), 1)
        self.assertEqual(bag.weights, {(1,): -1})

    def test_bags_share_nothing(self):
        one = Bag()
        one.add((1,))
        self.assertEqual(Bag().weights, {})
        for other in (one.plus(Bag()), one.times(1), one.minus(Bag()), one.once()):
            other.add((2,))
            self.assertEqual(one.weights, {(1,): 1})


class Sums(unittest.TestCase):
    ONE = ((((1,), 2), (("a",), -1)))
    OTHER = ((((1,), -2), (("a",), -1), ((7,), 4)))

    def test_sums_differences_and_products(self):
        one, other = Bag(self.ONE), Bag(self.OTHER)
        self.assertEqual(one.plus(other).weights, {("a",): -2, (7,): 4})
        self.assertEqual(one.minus(other).weights, {(1,): 4, (7,): -4})
        self.assertEqual(other.times(-3).weights, {(1,): 6, ("a",): 3, (7,): -12})
        self.assertEqual(other.times(0).weights, {})
        self.assertEqual(one.minus(one).weights, {})
        self.assertEqual((one.weights, other.weights), (dict(self.ONE), dict(self.OTHER)))

    def test_once_takes_the_rows_above_0(self):
        self.assertEqual(Bag((((1,), 5), ((2,), -5), ((3,), 1))).once().weights, {(1,): 1, (3,): 1})

    def test_same_bags(self):
        self.assertTrue(same_bags(Bag((((1,), 1), ((2,), 2))), Bag((((2,), 2), ((1,), 1)))))
        self.assertFalse(same_bags(Bag((((1,), 1),)), Bag((((1,), 2),))))
        self.assertFalse(same_bags(Bag((((1,), 1),)), Bag((((1,), 1), ((2,), 1)))))
        self.assertTrue(same_bags(Bag(), Bag((((1,), 0),))))


class Order(unittest.TestCase):
    def test_numbers_stand_ahead_of_texts(self):
        self.assertLess(value_rank(10 ** 30), value_rank(""))
        self.assertLess(value_rank(-1), value_rank(0))
        self.assertLess(value_rank("B"), value_rank("a"))
        self.assertLess(value_rank("10"), value_rank("9"))
        self.assertIs(type(value_rank(1)), tuple)
        self.assertIs(type(row_rank((1, "a"))), tuple)

    def test_rows_ascend(self):
        rows = [(), (-2,), (1,), (1, 5), (1, "a"), (2,), (10,), ("",), ("\n",), ("B", 1), ("a",), ("a", 0), ("a", "")]
        mixed = list(rows)
        random.Random(3).shuffle(mixed)
        self.assertEqual(sorted(mixed, key=row_rank), rows)
        bag = Bag([(row, place + 1) for place, row in enumerate(mixed)])
        self.assertEqual([row for row, _ in bag.rows()], rows)
        self.assertIs(type(bag.rows()), tuple)
        self.assertEqual(Bag((((2,), -1), ((1,), 3))).rows(), (((1,), 3), ((2,), -1)))


class Spreading(unittest.TestCase):
    def test_each_row_as_often_as_its_weight(self):
        bag = Bag(((("a",), 1), ((2,), 3)))
        self.assertTrue(bag.is_set())
        self.assertEqual(bag.spread(), ((2,), (2,), (2,), ("a",)))
        self.assertTrue(Bag().is_set())
        self.assertEqual(Bag().spread(), ())

    def test_weights_below_0_are_refused(self):
        bag = Bag((((1,), 2), ((2,), -1)))
        self.assertFalse(bag.is_set())
        with self.assertRaises(RowError):
            bag.spread()
        self.assertEqual(bag.weights, {(1,): 2, (2,): -1})


if __name__ == "__main__":
    unittest.main()
