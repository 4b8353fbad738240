"""Points [3] and [9] of section 5: chains."""

import itertools
import unittest

from duelsets.chains import chain_for, chain_tops, each_full_chain, full_chains, is_chain, is_full_chain
from duelsets.errors import NoAlternative, NoTop
from tests.definitions import full_chain_family, is_plain_chain, is_plain_full_chain
from tests.samples import T, U, all_tables, check_pure, odd_values, raised, spoiled
from tests.shapes import circle, every_shape, linear_table, shaped_tables


def odd_chains(size):
    """Values that are not chains of this many alternatives."""
    last = size - 1
    return [
        *odd_values(), (), 0, last, (size,), (-1,), (-size,), (0, size), (last, -1), (0, 0), (last, last), (True,),
        (False,), (0, True), (False, 1), (None,), (0, None), ("0",), ((0,),), (0, (1,)), ([0],), ({},), [0], [0, 1],
        tuple(range(size + 1)), tuple(range(1000)), (0,) * 1000, (0, 1) * 500, (10 ** 29,), (0, -(10 ** 29)),
    ]


def not_alternatives(size):
    return [-1, -size, size, size + 1, (), (0,), T, *odd_values()]


class IsChainTest(unittest.TestCase):
    def check(self, table, value):
        self.assertIs(is_chain(table, value), is_plain_chain(table, value), (table, repr(value)[:200]))
        self.assertIs(is_full_chain(table, value), is_plain_full_chain(table, value), (table, repr(value)[:200]))

    def test_example(self):
        self.assertEqual(
            repr([is_chain(U, (0, 1)), is_full_chain(U, (0, 1)), is_full_chain(U, (1, 2)), is_chain(U, (0, 3))]),
            "[True, True, False, False]",
        )

    def test_all_tuples_of_numbers(self):
        for size in range(1, 5):
            for table in all_tables(size)[::3 if size == 4 else 1]:
                for length in range(size + 2):
                    for value in itertools.product(range(-1, size + 1), repeat=length):
                        self.check(table, value)

    def test_tuples_of_greater_tables(self):
        for size in range(5, 10):
            for table in shaped_tables(size):
                for length in range(4):
                    for value in itertools.permutations(range(size), length):
                        self.check(table, value)

    def test_ends_and_orders_of_full_chains(self):
        for table in every_shape():
            for chain in full_chain_family(table):
                for value in (chain, chain[1:], chain[:-1], chain[::-1], chain + chain[-1:], chain[:1] + chain):
                    self.check(table, value)

    def test_repeated_alternatives(self):
        for value in ((0, 0), (0, 1, 1), (0, 1, 0), (0, 1, 2, 2)):
            self.assertIs(is_chain(U, value), False)
            self.assertIs(is_full_chain(U, value), False)

    def test_bools_and_lists(self):
        for value in ((0, True), (False, 1), (False, True), [0, 1], ([0, 1],), (False,), (True,)):
            self.assertIs(is_chain(U, value), False)
            self.assertIs(is_full_chain(U, value), False)
        self.assertIs(is_full_chain((".",), (0,)), True)
        self.assertIs(is_full_chain((".",), (False,)), False)

    def test_any_value(self):
        for size in range(1, 10):
            for table in shaped_tables(size)[:3]:
                for value in odd_chains(size):
                    self.assertIs(is_chain(table, value), False, repr(value)[:200])
                    self.assertIs(is_full_chain(table, value), False, repr(value)[:200])

    def test_results_with_parts_replaced(self):
        for size in range(1, 10):
            for table in shaped_tables(size)[:8]:
                for chain in full_chain_family(table)[:4]:
                    for value in spoiled(chain, size):
                        self.check(table, value)

    def test_equal_calls_and_arguments(self):
        for value in [(0, 1), (1, 2), (0, 3), *odd_chains(4)]:
            check_pure(self, is_chain, U, value)
            check_pure(self, is_full_chain, U, value)


class FullChainsTest(unittest.TestCase):
    def test_examples(self):
        self.assertEqual(repr(full_chains(U)), "((0, 1), (0, 1, 2), (0, 2), (1, 2, 3), (1, 3), (3, 0))")
        self.assertEqual(
            repr([chain for chain in each_full_chain((".+-", "-.+", "+-."))]), "[(0, 1), (1, 2), (2, 0)]"
        )

    def test_all_orders_of_small_tables(self):
        for size in range(1, 5):
            orders = [order for many in range(size + 1) for order in itertools.permutations(range(size), many)]
            for table in all_tables(size):
                expected = sorted(order for order in orders if is_plain_full_chain(table, order))
                self.assertEqual(repr(full_chains(table)), repr(tuple(expected)))

    def test_all_of_them_in_ascending_order(self):
        for table in [*every_shape(), *all_tables(5)]:
            self.assertEqual(repr(full_chains(table)), repr(full_chain_family(table)))

    def test_one_by_one(self):
        for table in every_shape():
            self.assertEqual(tuple(each_full_chain(table)), full_chains(table))

    def test_linear_tables(self):
        for size in range(1, 10):
            chains = full_chains(linear_table(size))
            self.assertEqual(len(chains), 2 ** (size - 1))
            self.assertEqual({chain[0] for chain in chains}, {0})

    def test_equal_calls_and_arguments(self):
        for table in (T, U, *shaped_tables(9)[:6]):
            check_pure(self, full_chains, table)


class EachFullChainTest(unittest.TestCase):
    def test_each_time_from_the_beginning(self):
        for table in (U, circle(7), *shaped_tables(9)):
            expected = full_chain_family(table)
            self.assertEqual([tuple(each_full_chain(table)) for _ in range(2)], [expected, expected])

    def test_after_an_iteration_that_ended_early(self):
        for table in (U, circle(7), *shaped_tables(8)):
            expected = full_chain_family(table)
            for many in (1, 2):
                left = []
                for chain in each_full_chain(table):
                    left.append(chain)
                    if len(left) == many:
                        break
                self.assertEqual(tuple(left), expected[:many])
                self.assertEqual(tuple(each_full_chain(table)), expected)

    def test_within_another_iteration(self):
        others = (U, circle(5), linear_table(4))
        for table in others:
            for other in others:
                pairs = [(outer, inner) for outer in each_full_chain(table) for inner in each_full_chain(other)]
                family = itertools.product(full_chain_family(table), full_chain_family(other))
                self.assertEqual(pairs, list(family))

    def test_two_at_once(self):
        for table, other in ((U, U), (U, circle(7)), (circle(7), linear_table(6))):
            pairs = list(zip(each_full_chain(table), each_full_chain(other)))
            self.assertEqual(pairs, list(zip(full_chain_family(table), full_chain_family(other))))

    def test_a_generator(self):
        chains = each_full_chain(U)
        self.assertIs(iter(chains), chains)
        self.assertEqual([next(chains), next(chains)], [(0, 1), (0, 1, 2)])
        self.assertEqual(list(chains), [(0, 2), (1, 2, 3), (1, 3), (3, 0)])
        self.assertEqual(list(chains), [])


class ChainTopsTest(unittest.TestCase):
    def test_example(self):
        self.assertEqual(repr(chain_tops(U)), "(0, 1, 3)")

    def test_first_alternatives_of_full_chains(self):
        for table in [*every_shape(), *all_tables(5)]:
            tops = tuple(sorted({chain[0] for chain in full_chain_family(table)}))
            self.assertEqual(repr(chain_tops(table)), repr(tops))

    def test_equal_calls_and_arguments(self):
        for table in (T, U, *shaped_tables(9)):
            check_pure(self, chain_tops, table)


class ChainForTest(unittest.TestCase):
    def test_examples(self):
        self.assertEqual(repr(chain_for(U, 3)), "(3, 0)")
        self.assertEqual(raised(NoTop, chain_for, U, 2).value, 2)

    def test_a_full_chain_with_this_top_or_no_top(self):
        for table in every_shape():
            tops = {chain[0] for chain in full_chain_family(table)}
            for one in range(len(table)):
                if one in tops:
                    chain = chain_for(table, one)
                    self.assertTrue(is_plain_full_chain(table, chain), (table, one, chain))
                    self.assertEqual(chain[0], one)
                else:
                    self.assertIs(raised(NoTop, chain_for, table, one).value, one)

    def test_no_alternative(self):
        for size in range(1, 10):
            for table in shaped_tables(size)[:3]:
                for value in not_alternatives(size):
                    self.assertIs(raised(NoAlternative, chain_for, table, value).value, value)

    def test_bools_are_not_alternatives(self):
        self.assertIs(raised(NoAlternative, chain_for, (".",), False).value, False)
        self.assertIs(raised(NoAlternative, chain_for, U, True).value, True)

    def test_equal_calls_and_arguments(self):
        for value in [0, 1, 2, 3, *not_alternatives(4)]:
            check_pure(self, chain_for, U, value)


if __name__ == "__main__":
    unittest.main()
