"""Points [3] and [7] of section 3: covering sets and their witnesses."""

import itertools
import unittest

from duelsets.coverings import covering_sets, find_witnesses, is_covering, smallest_covering, witnesses_hold
from duelsets.errors import NoSet
from tests.definitions import covering_family, covers_within, is_covering_set, right_witnesses, smallest_of
from tests.samples import T, U, all_tables, check_pure, odd_values, raised, sets_by_size, spoiled
from tests.shapes import circle, every_shape, linear_table, shaped_tables


def odd_sets(size):
    """Values that are not sets of this many alternatives that are not empty."""
    everyone = tuple(range(size))
    return [
        *odd_values(), (), list(everyone), everyone + (size,), (-1,) + everyone, everyone + everyone, (everyone,),
        everyone + (True,), (False,) + everyone[1:], tuple(map(str, everyone)), tuple(map(bool, everyone)), (None,),
        ((),), everyone + (None,), everyone + ([],), (10 ** 29,), tuple(range(1000)), (0,) * 1000, {"0": everyone},
    ]


class IsCoveringTest(unittest.TestCase):
    def test_example(self):
        self.assertEqual(
            repr([is_covering(U, (0, 1, 3)), is_covering(U, (0, 1)), is_covering(U, ())]), "[True, False, False]"
        )

    def test_all_sets(self):
        for table in every_shape():
            family = covering_family(table)
            for members in sets_by_size(len(table)):
                self.assertIs(is_covering(table, members), members in family, (table, members))

    def test_all_tuples_of_numbers(self):
        for size in range(1, 5):
            for table in all_tables(size)[::3]:
                for length in range(size + 2):
                    for value in itertools.product(range(-1, size + 1), repeat=length):
                        self.assertIs(is_covering(table, value), is_covering_set(table, value), (table, value))

    def test_tuples_that_are_not_ascending(self):
        for value in ((3, 1, 0), (1, 0, 3), (0, 0, 1, 3), (0, 1, 3, 3), (0, 1, 3, 0)):
            self.assertIs(is_covering(U, value), False)

    def test_bools_inside(self):
        for value in ((False, 1, 3), (0, True, 3), (False, True, 3), (False, True, 2, 3)):
            self.assertIs(is_covering(U, value), False)
        self.assertIs(is_covering((".",), (False,)), False)
        self.assertIs(is_covering((".-", "+."), (True,)), False)

    def test_lists_and_any_other_value(self):
        for size in range(1, 10):
            for table in shaped_tables(size)[:3]:
                for value in odd_sets(size):
                    self.assertIs(is_covering(table, value), False, repr(value)[:200])

    def test_results_with_parts_replaced(self):
        for size in range(1, 10):
            for table in shaped_tables(size)[:8]:
                for value in spoiled(smallest_covering(table), size):
                    self.assertIs(is_covering(table, value), is_covering_set(table, value), (table, value))

    def test_equal_calls_and_arguments(self):
        for value in [(0, 1, 3), (0, 1), *odd_sets(4)]:
            check_pure(self, is_covering, U, value)


class CoveringSetsTest(unittest.TestCase):
    def test_example(self):
        self.assertEqual(repr(covering_sets(U)), "((0, 1, 2, 3), (0, 1, 3))")

    def test_all_of_them_in_ascending_order(self):
        for table in every_shape():
            self.assertEqual(repr(covering_sets(table)), repr(tuple(sorted(covering_family(table)))))

    def test_linear_tables(self):
        for size in range(1, 10):
            family = [members for members in sets_by_size(size) if members[:1] == (0,)]
            self.assertEqual(covering_sets(linear_table(size)), tuple(sorted(family)))

    def test_equal_calls_and_arguments(self):
        for table in (T, U, *shaped_tables(9)[:6]):
            check_pure(self, covering_sets, table)


class SmallestTest(unittest.TestCase):
    def test_example(self):
        self.assertEqual(repr(smallest_covering(U)), "(0, 1, 3)")

    def test_contained_in_all_covering_sets(self):
        for table in [*every_shape(), *all_tables(5)]:
            self.assertEqual(repr(smallest_covering(table)), repr(smallest_of(covering_family(table))))

    def test_linear_tables_and_circles(self):
        for size in range(1, 10):
            self.assertEqual(smallest_covering(linear_table(size)), (0,))
            if size % 2:
                self.assertEqual(smallest_covering(circle(size)), tuple(range(size)))

    def test_equal_calls_and_arguments(self):
        for table in (T, U, *shaped_tables(9)):
            check_pure(self, smallest_covering, table)


class FindWitnessesTest(unittest.TestCase):
    def test_example(self):
        self.assertEqual(repr(find_witnesses(U, (0, 1, 3))), "(None, None, 1, None)")

    def test_right_for_all_covering_sets(self):
        for table in every_shape():
            for members in covering_family(table):
                found = find_witnesses(table, members)
                self.assertTrue(right_witnesses(table, members, found), (table, members, found))
                self.assertIs(witnesses_hold(table, members, found), True)

    def test_sets_that_are_not_covering(self):
        for table in every_shape()[::2]:
            for members in set(sets_by_size(len(table))) - set(covering_family(table)):
                self.assertIs(raised(NoSet, find_witnesses, table, members).value, members)

    def test_values_that_are_not_sets(self):
        for size in range(1, 10):
            for table in shaped_tables(size)[:3]:
                for value in odd_sets(size):
                    self.assertIs(raised(NoSet, find_witnesses, table, value).value, value)

    def test_sets_with_parts_replaced(self):
        for value in spoiled((0, 1, 3), 4):
            if not is_covering_set(U, value):
                self.assertIs(raised(NoSet, find_witnesses, U, value).value, value)

    def test_equal_calls_and_arguments(self):
        for value in [(0, 1, 3), (0, 1), *odd_sets(4)]:
            check_pure(self, find_witnesses, U, value)


class WitnessesHoldTest(unittest.TestCase):
    def check(self, table, members, value):
        result = witnesses_hold(table, members, value)
        self.assertIs(result, right_witnesses(table, members, value), (table, members, repr(value)[:200]))

    def test_example(self):
        self.assertEqual(
            repr([witnesses_hold(U, (0, 1, 3), (None, None, witness, None)) for witness in (1, 0)]),
            "[True, False]",
        )

    def test_all_tuples_of_numbers_and_none(self):
        for size in range(1, 5):
            for table in all_tables(size)[::7 if size == 4 else 1]:
                values = list(itertools.product([None, *range(size)], repeat=size))
                for members in sets_by_size(size)[1:]:
                    for value in values:
                        self.check(table, members, value)

    def test_all_right_witnesses_are_accepted(self):
        for table in every_shape()[::3]:
            size = len(table)
            for members in covering_family(table):
                choices = [
                    [None] if other in members
                    else [one for one in members if covers_within(table, members, one, other)]
                    for other in range(size)
                ]
                for value in itertools.islice(itertools.product(*choices), 20):
                    self.assertIs(witnesses_hold(table, members, value), True)

    def test_a_coverer_outside_is_no_witness(self):
        table = linear_table(3)
        self.assertIs(witnesses_hold(table, (0,), (None, 0, 0)), True)
        self.assertIs(witnesses_hold(table, (0,), (None, 0, 1)), False)

    def test_sets_that_are_not_covering_have_no_witnesses(self):
        for value in itertools.product([None, 0, 1, 2, 3], repeat=4):
            self.assertIs(witnesses_hold(U, (0, 1), value), False)

    def test_bools_are_not_numbers(self):
        self.assertIs(witnesses_hold(U, (0, 1, 3), (None, None, True, None)), False)
        self.assertIs(witnesses_hold((".+", "-."), (0,), (None, 0)), True)
        self.assertIs(witnesses_hold((".+", "-."), (0,), (None, False)), False)
        self.assertIs(witnesses_hold((".+", "-."), (0,), (False, 0)), False)

    def test_any_value(self):
        for size in range(1, 10):
            for table in shaped_tables(size)[:2]:
                members = smallest_covering(table)
                lengths = [(None,) * length for length in range(size + 2)]
                for value in [*odd_sets(size), *lengths, [None] * size]:
                    self.check(table, members, value)

    def test_results_with_parts_replaced(self):
        for size in range(1, 10):
            for table in shaped_tables(size)[:8]:
                for members in covering_family(table)[:3]:
                    for value in spoiled(find_witnesses(table, members), size):
                        self.check(table, members, value)

    def test_equal_calls_and_arguments(self):
        for value in [(None, None, 1, None), (None, None, 0, None), *odd_sets(4)]:
            check_pure(self, witnesses_hold, U, (0, 1, 3), value)


if __name__ == "__main__":
    unittest.main()
