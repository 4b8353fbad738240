"""Points [3] and [8], section 4: lotteries. Point [2] (a)."""

import fractions
import itertools
import math
import unittest

from duelsets.lotteries import balances, is_lottery, lottery, support
from tests.definitions import is_balanced_weights, plain_balances
from tests.samples import T, U, all_tables, check_pure, odd_values, spoiled, table_of_bits
from tests.shapes import circle, every_shape, linear_table, relabeled, shaped_tables, shuffled_order, without

V = (".++--", "-.+++", "--.++", "+--.+", "+---.")


def odd_weights(size):
    """Values that are not weights of this many alternatives."""
    return [
        *odd_values(), (), 0, 1, (1,) * (size + 1), (1,) * (size - 1) or (1, 1), (0,) * size, (-1,) * size, [1] * size,
        (True,) * size, (False,) * (size - 1) + (True,), (None,) * size, ("1",) * size, ((1,),) * size, ([1],) * size,
        (2,) * size, (10 ** 29,) * size, (-1,) + (0,) * (size - 1), (1,) * 1000, {"weights": (1,) * size},
        (1,) * (size - 1) + (None,), (1,) * (size - 1) + (-1,),
    ]


def kernel_by_fractions(table, members):
    """The solution, with 1 at the first member, of: all balances of the members are 0; None if it is not the only one.

    By elimination over fractions.
    """
    rows = [
        [fractions.Fraction({"+": 1, "-": -1, ".": 0}[table[one][other]]) for other in members] for one in members
    ]
    pivots = []
    for row in range(len(rows)):
        column = next((c for c in range(1, len(rows)) if c not in pivots and rows[row][c] != 0), None)
        if column is None:
            if rows[row][0] != 0:
                return None
            continue
        pivots.append(column)
        rows[row] = [part / rows[row][column] for part in rows[row]]
        for other in range(len(rows)):
            if other != row and rows[other][column] != 0:
                factor = rows[other][column]
                rows[other] = [a - factor * b for a, b in zip(rows[other], rows[row])]
    if len(pivots) < len(rows) - 1:
        return None
    solution = {0: fractions.Fraction(1)}
    for row in rows:
        leading = [column for column in pivots if row[column] == 1]
        if any(part != 0 for part in row[1:]):
            solution[leading[0]] = -row[0]
    return [solution[column] for column in range(len(rows))]


class BalancesTest(unittest.TestCase):
    def test_example(self):
        self.assertEqual(repr(balances(U, (1, 1, 0, 1))), "(0, 0, -1, 0)")

    def weights_for(self, table):
        size = len(table)
        yield from [(0,) * size, (1,) * size, tuple(range(size)), tuple(range(size, 0, -1))]
        yield tuple(10 ** 29 - 7 * one for one in range(size))
        yield tuple((one * 0x9E3779B97F4A7C15) % 10 ** 30 for one in range(size))
        for one in range(size):
            yield tuple(int(one == other) for other in range(size))

    def test_won_minus_lost_weights(self):
        for table in every_shape():
            for weights in self.weights_for(table):
                self.assertEqual(repr(balances(table, weights)), repr(plain_balances(table, weights)))

    def test_the_weighted_sum_is_0(self):
        for table in every_shape():
            for weights in self.weights_for(table):
                self.assertEqual(sum(a * b for a, b in zip(weights, balances(table, weights))), 0)

    def test_one_alternative(self):
        self.assertEqual(balances((".",), (5,)), (0,))

    def test_equal_calls_and_arguments(self):
        for weights in ((1, 1, 0, 1), (0, 0, 0, 0), (10 ** 29, 1, 2, 3)):
            check_pure(self, balances, U, weights)


class LotteryTest(unittest.TestCase):
    def test_example(self):
        self.assertEqual(
            repr([lottery(V), support(V), lottery((".+", "-."))]), "[(1, 1, 0, 1, 0), (0, 1, 3), (1, 0)]"
        )

    def check(self, table):
        found = lottery(table)
        self.assertIs(type(found), tuple)
        self.assertTrue(all(type(weight) is int and weight >= 0 for weight in found), table)
        self.assertTrue(is_balanced_weights(table, found), (table, found))
        self.assertEqual(math.gcd(*found), 1)
        self.assertEqual(support(table), tuple(one for one, weight in enumerate(found) if weight > 0))
        self.check_odd(table, found)

    def check_odd(self, table, found):
        """[2] (a)"""
        positive = [weight for weight in found if weight > 0]
        self.assertEqual(len(positive) % 2, 1)
        self.assertTrue(all(weight % 2 == 1 for weight in positive), (table, found))
        for weight, balance in zip(found, plain_balances(table, found)):
            self.assertTrue(balance == 0 if weight else balance < 0, (table, found))

    def test_balanced_and_odd(self):
        for table in every_shape():
            self.check(table)

    def test_all_tables_of_five(self):
        for table in all_tables(5):
            self.check(table)

    def test_the_only_one_of_all_small_weights(self):
        for size in range(1, 5):
            for table in all_tables(size):
                self.check_only(table)
        for table in shaped_tables(5):
            self.check_only(table)

    def check_only(self, table):
        family = [
            weights for weights in itertools.product(range(4), repeat=len(table))
            if is_balanced_weights(table, weights) and math.gcd(*weights) == 1
        ]
        self.assertEqual([lottery(table)], family)

    def test_the_weights_of_the_support_by_elimination(self):
        for table in every_shape()[::2]:
            members = support(table)
            weights = kernel_by_fractions(table, members)
            factor = lottery(table)[members[0]]
            self.assertEqual([weight * factor for weight in weights], [lottery(table)[one] for one in members])

    def test_weights_that_are_not_all_equal(self):
        found = {weight for table in shaped_tables(9) for weight in lottery(table)}
        self.assertGreater(len(found), 9)
        self.assertEqual(lottery(table_of_bits(9, 0x8308D68AB)), (9, 25, 19, 11, 7, 27, 1, 17, 3))

    def test_linear_tables_and_circles(self):
        for size in range(1, 10):
            self.assertEqual(lottery(linear_table(size)), (1,) + (0,) * (size - 1))
            if size % 2:
                self.assertEqual(lottery(circle(size)), (1,) * size)

    def test_one_alternative(self):
        self.assertEqual([lottery((".",)), support((".",))], [(1,), (0,)])

    def test_an_alternative_of_weight_0_is_removed(self):
        for table in every_shape():
            weights = lottery(table)
            for one, weight in enumerate(weights):
                if weight == 0:
                    self.assertEqual(lottery(without(table, one)), weights[:one] + weights[one + 1:])

    def test_an_alternative_that_loses_to_all_is_added(self):
        for table in every_shape():
            if len(table) < 9:
                larger = tuple(row + "+" for row in table) + ("-" * len(table) + ".",)
                self.assertEqual(lottery(larger), lottery(table) + (0,))

    def test_renumbered_with_the_table(self):
        for table in every_shape():
            weights = lottery(table)
            for seed in range(3):
                order = shuffled_order(seed, len(table))
                self.assertEqual(lottery(relabeled(table, order)), tuple(weights[one] for one in order))

    def test_equal_calls_and_arguments(self):
        for table in (T, U, V, *shaped_tables(9)):
            check_pure(self, lottery, table)
            check_pure(self, support, table)

    def test_ten_alternatives(self):
        self.check(table_of_bits(10, 0x123456789ABC))


class IsLotteryTest(unittest.TestCase):
    def check(self, table, value):
        expected = type(value) is tuple and repr(value) == repr(lottery(table))
        self.assertIs(is_lottery(table, value), expected, (table, repr(value)[:200]))

    def test_example(self):
        self.assertEqual(
            repr([is_lottery(U, (1, 1, 0, 1)), is_lottery(U, (2, 2, 0, 2)), is_lottery(U, (1, 1, 1, 1))]),
            "[True, False, False]",
        )

    def test_the_lottery_alone(self):
        for size in range(1, 5):
            for table in all_tables(size):
                for value in itertools.product(range(-1, 3), repeat=size):
                    self.check(table, value)

    def test_the_lottery_of_greater_tables(self):
        for table in every_shape():
            self.assertIs(is_lottery(table, lottery(table)), True)

    def test_multiples(self):
        for table in every_shape():
            for factor in (-1, 0, 2, 3, 7, 10 ** 20):
                value = tuple(weight * factor for weight in lottery(table))
                self.assertIs(is_lottery(table, value), False, (table, value))

    def test_lotteries_of_other_tables(self):
        for size in range(1, 10):
            for table, other in itertools.product(shaped_tables(size)[:12], repeat=2):
                self.check(table, lottery(other))

    def test_any_value(self):
        for size in range(1, 10):
            for table in shaped_tables(size)[:4]:
                for value in odd_weights(size):
                    self.check(table, value)

    def test_results_with_parts_replaced(self):
        for size in range(1, 10):
            for table in shaped_tables(size)[:8]:
                for value in spoiled(lottery(table), size):
                    self.check(table, value)

    def test_bools(self):
        self.assertIs(is_lottery((".",), (True,)), False)
        self.assertIs(is_lottery((".+", "-."), (1, False)), False)
        self.assertIs(is_lottery(U, (1, True, 0, 1)), False)

    def test_equal_calls_and_arguments(self):
        for value in [(1, 1, 0, 1), (1, 1, 1, 1), *odd_weights(4)]:
            check_pure(self, is_lottery, U, value)


if __name__ == "__main__":
    unittest.main()
