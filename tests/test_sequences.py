"""Points [3] and [10] of section 5: sequences. Point [2] (c)."""

import itertools
import math
import random
import time
import unittest

from duelsets.chains import chain_tops, each_full_chain
from duelsets.errors import NoAlternative, NoOrder, NoTop
from duelsets.sequences import careful_counts, careful_winner, sequence_counts, sequence_for, sequence_winner
from duelsets.tops import top_set
from tests.definitions import dominant_family, full_chain_family, is_plain_full_chain
from tests.samples import T, U, all_tables, beats, check_pure, odd_values, raised, spoiled, table_of_bits
from tests.shapes import circle, every_shape, linear_table, shaped_tables, shuffled_order

C = (".+-", "-.+", "+-.")


def plain_winner(table, order):
    winner, *others = order
    for other in others:
        winner = winner if beats(table, winner, other) else other
    return winner


def plain_taken(table, order):
    """The alternatives that the careful sequence takes, the last one first."""
    taken = [order[-1]]
    for one in order[-2::-1]:
        if all(beats(table, one, other) for other in taken):
            taken.insert(0, one)
    return tuple(taken)


def drawn_orders(size):
    if size <= 4:
        return list(itertools.permutations(range(size)))
    return [tuple(range(size)), tuple(range(size))[::-1], *(shuffled_order(seed, size) for seed in range(20))]


def not_orders(size):
    """Values that are not orders of this many alternatives."""
    everyone = tuple(range(size))
    values = [
        *odd_values(), (), list(everyone), everyone[:-1], everyone[1:], everyone + (size,), everyone + everyone,
        (-1,) + everyone, (-1,) + everyone[1:], everyone[:-1] + (size,), (everyone,), (None,) * size, everyone + (0,),
        tuple(map(str, everyone)), tuple(map(float, everyone)), (False,) + everyone[1:], (10 ** 29,) * size,
        (everyone[-1],) * (size + 1), tuple(range(1000)), (0,) * 1000, {"0": everyone}, "".join(map(str, everyone)),
        tuple((one,) for one in everyone), tuple([one] for one in everyone), everyone[:-1] + (None,),
    ]
    if size > 1:
        values += [(0,) * size, everyone[:-1] + (0,), everyone[1:] + (size - 1,), (0, True) + everyone[2:]]
    return values


def not_alternatives(size):
    return [-1, -size, size, size + 1, (), (0,), T, *odd_values()]


class WinnersTest(unittest.TestCase):
    def test_example(self):
        self.assertEqual(
            repr([
                sequence_winner(U, (0, 1, 2, 3)), careful_winner(U, (0, 1, 2, 3)), careful_winner(U, (2, 1, 3, 0)),
            ]),
            "[3, 1, 3]",
        )

    def test_drawn_orders(self):
        for table in every_shape():
            for order in drawn_orders(len(table)):
                self.assertEqual(repr(sequence_winner(table, order)), repr(plain_winner(table, order)))
                self.assertEqual(repr(careful_winner(table, order)), repr(plain_taken(table, order)[0]))

    def test_the_ones_that_are_taken_are_a_full_chain(self):
        for table in every_shape():
            for order in drawn_orders(len(table)):
                taken = plain_taken(table, order)
                self.assertTrue(is_plain_full_chain(table, taken))
                self.assertEqual(careful_winner(table, order), taken[0])

    def test_an_order_that_ends_with_a_full_chain(self):
        for table in every_shape():
            for chain in each_full_chain(table):
                order = tuple(one for one in range(len(table)) if one not in chain) + chain
                self.assertEqual(careful_winner(table, order), chain[0])

    def test_one_alternative(self):
        self.assertEqual([sequence_winner((".",), (0,)), careful_winner((".",), (0,))], [0, 0])

    def test_no_order(self):
        for size in range(1, 10):
            for table in shaped_tables(size)[:2]:
                for value in not_orders(size):
                    raised(NoOrder, sequence_winner, table, value)
                    raised(NoOrder, careful_winner, table, value)

    def test_all_tuples_of_numbers(self):
        for size in range(1, 4):
            orders = list(itertools.permutations(range(size)))
            for length in range(size + 2):
                for value in itertools.product(range(-1, size + 1), repeat=length):
                    if value not in orders:
                        raised(NoOrder, sequence_winner, linear_table(size), value)
                        raised(NoOrder, careful_winner, linear_table(size), value)

    def test_orders_with_parts_replaced(self):
        for size in range(1, 10):
            for value in spoiled(shuffled_order(size, size), size):
                numbers = type(value) is tuple and all(type(one) is int for one in value)
                if not numbers or sorted(value) != list(range(size)):
                    raised(NoOrder, sequence_winner, circle(size), value)
                    raised(NoOrder, careful_winner, circle(size), value)

    def test_equal_calls_and_arguments(self):
        for value in [(0, 1, 2, 3), (3, 1, 0, 2), *not_orders(4)]:
            check_pure(self, sequence_winner, U, value)
            check_pure(self, careful_winner, U, value)


class SequenceForTest(unittest.TestCase):
    def test_example(self):
        self.assertEqual(repr(sequence_winner(U, sequence_for(U, 2))), "2")

    def test_an_order_that_it_wins_or_no_top(self):
        for table in [*every_shape(), *all_tables(5)]:
            top = dominant_family(table)[0]
            for one in range(len(table)):
                if one in top:
                    order = sequence_for(table, one)
                    self.assertIs(type(order), tuple)
                    self.assertEqual(sorted(order), list(range(len(table))))
                    self.assertEqual(plain_winner(table, order), one, (table, one, order))
                else:
                    self.assertIs(raised(NoTop, sequence_for, table, one).value, one)

    def test_one_alternative(self):
        self.assertEqual(sequence_for((".",), 0), (0,))

    def test_no_alternative(self):
        for size in range(1, 10):
            for table in shaped_tables(size)[:3]:
                for value in not_alternatives(size):
                    self.assertIs(raised(NoAlternative, sequence_for, table, value).value, value)

    def test_bools_are_not_alternatives(self):
        self.assertIs(raised(NoAlternative, sequence_for, (".",), False).value, False)
        self.assertIs(raised(NoAlternative, sequence_for, U, True).value, True)

    def test_equal_calls_and_arguments(self):
        for table in (T, U):
            for value in [0, 1, 2, 3, *not_alternatives(4)]:
                check_pure(self, sequence_for, table, value)


class CountsTest(unittest.TestCase):
    def test_example(self):
        self.assertEqual(repr([sequence_counts(C), careful_counts(C)]), "[(2, 2, 2), (2, 2, 2)]")

    def check_all_orders(self, table):
        sequence, careful = [0] * len(table), [0] * len(table)
        for order in itertools.permutations(range(len(table))):
            sequence[plain_winner(table, order)] += 1
            careful[plain_taken(table, order)[0]] += 1
        self.assertEqual(repr(sequence_counts(table)), repr(tuple(sequence)))
        self.assertEqual(repr(careful_counts(table)), repr(tuple(careful)))

    def test_all_orders_of_small_tables(self):
        for size in range(1, 5):
            for table in all_tables(size):
                self.check_all_orders(table)

    def test_all_orders_of_some_greater_tables(self):
        for table in [*all_tables(5)[::7], *shaped_tables(6)[::3], *shaped_tables(7)[:3]]:
            self.check_all_orders(table)

    def test_all_orders_in_all(self):
        for table in every_shape():
            self.assertEqual(sum(sequence_counts(table)), math.factorial(len(table)))
            self.assertEqual(sum(careful_counts(table)), math.factorial(len(table)))

    def test_positive_exactly_for_the_top_set_and_the_tops(self):
        """[2] (c)"""
        for table in [*every_shape(), *all_tables(5)]:
            winners = tuple(one for one, many in enumerate(sequence_counts(table)) if many > 0)
            self.assertEqual(winners, dominant_family(table)[0])
            self.assertEqual(winners, top_set(table))
            careful = tuple(one for one, many in enumerate(careful_counts(table)) if many > 0)
            self.assertEqual(careful, tuple(sorted({chain[0] for chain in full_chain_family(table)})))
            self.assertEqual(careful, chain_tops(table))

    def test_drawn_orders_agree_with_the_counts(self):
        chance = random.Random(1)
        for table in shaped_tables(9):
            won, careful = sequence_counts(table), careful_counts(table)
            for _ in range(30):
                order = tuple(chance.sample(range(9), 9))
                self.assertGreater(won[sequence_winner(table, order)], 0)
                self.assertGreater(careful[careful_winner(table, order)], 0)

    def test_linear_tables(self):
        for size in range(1, 10):
            expected = (math.factorial(size),) + (0,) * (size - 1)
            self.assertEqual(sequence_counts(linear_table(size)), expected)
            self.assertEqual(careful_counts(linear_table(size)), expected)

    def test_circles_are_fair(self):
        for size in range(1, 10, 2):
            expected = (math.factorial(size) // size,) * size
            self.assertEqual(sequence_counts(circle(size)), expected)
            self.assertEqual(careful_counts(circle(size)), expected)

    def test_equal_calls_and_arguments(self):
        for table in (T, U, C, *shaped_tables(9)[:6]):
            check_pure(self, sequence_counts, table)
            check_pure(self, careful_counts, table)

    def test_ten_alternatives(self):
        table = table_of_bits(10, 0x123456789ABC)
        self.assertEqual(sum(sequence_counts(table)), math.factorial(10))
        self.assertEqual(sum(careful_counts(table)), math.factorial(10))

    def test_nine_alternatives_at_once(self):
        for table in (linear_table(9), circle(9), *shaped_tables(9)):
            start = time.perf_counter()
            sequence_counts(table)
            careful_counts(table)
            for one in top_set(table):
                sequence_winner(table, sequence_for(table, one))
            self.assertLess(time.perf_counter() - start, 2)


if __name__ == "__main__":
    unittest.main()
