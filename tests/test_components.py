"""Points [3] and [11], section 6: components."""

import itertools
import random
import unittest

from duelsets.components import all_components, is_component, parts, replace_alternatives, summary
from duelsets.errors import TooLarge
from duelsets.tables import is_table, restrict_table
from tests.definitions import component_family, dominant_family, is_plain_component, plain_parts
from tests.samples import T, U, all_tables, beats, check_pure, odd_values, raised, sets_by_size, spoiled
from tests.shapes import circle, drawn_table, every_shape, linear_table, relabeled, replaced, shaped_tables

C = (".+-", "-.+", "+-.")


def odd_sets(size):
    """Values that are not sets of this many alternatives that are not empty."""
    everyone = tuple(range(size))
    return [
        *odd_values(), (), 0, list(everyone), everyone + (size,), (-1,) + everyone, everyone + everyone, (everyone,),
        everyone + (True,), (False,) + everyone[1:], tuple(map(str, everyone)), (None,), ((),), everyone + (None,),
        everyone + ([],), (10 ** 29,), tuple(range(1000)), (0,) * 1000, {"0": everyone}, (size,), (-1,), (-size,),
    ]


class IsComponentTest(unittest.TestCase):
    def check(self, table, value):
        self.assertIs(is_component(table, value), is_plain_component(table, value), (table, repr(value)[:200]))

    def test_example(self):
        self.assertEqual(
            repr([is_component(T, (0, 1, 2)), is_component(T, (0, 1)), is_component(T, (3,))]), "[True, False, True]"
        )

    def test_all_sets(self):
        for table in every_shape():
            for members in sets_by_size(len(table)):
                self.check(table, members)

    def test_all_tuples_of_numbers(self):
        for size in range(1, 5):
            for table in all_tables(size)[::3]:
                for length in range(size + 2):
                    for value in itertools.product(range(-1, size + 1), repeat=length):
                        self.check(table, value)

    def test_the_empty_set(self):
        for table in every_shape():
            self.assertIs(is_component(table, ()), False)

    def test_tuples_that_are_not_ascending(self):
        for value in ((1, 0), (2, 1, 0), (0, 2, 1), (0, 0), (3, 3), (0, 1, 2, 2), (3, 2, 1, 0)):
            self.assertIs(is_component(linear_table(4), value), False)

    def test_bools_inside(self):
        for value in ((False,), (True,), (False, 1), (0, True), (False, True), (0, True, 2)):
            self.assertIs(is_component(linear_table(4), value), False)
        self.assertIs(is_component((".",), (False,)), False)

    def test_lists_and_any_other_value(self):
        for size in range(1, 10):
            for table in (linear_table(size), *shaped_tables(size)[:2]):
                for value in odd_sets(size):
                    self.assertIs(is_component(table, value), False, repr(value)[:200])

    def test_results_with_parts_replaced(self):
        for size in range(1, 10):
            for table in shaped_tables(size)[::4]:
                for members in component_family(table)[-3:]:
                    for value in spoiled(members, size):
                        self.check(table, value)

    def test_equal_calls_and_arguments(self):
        for value in [(0, 1, 2), (0, 1), *odd_sets(4)]:
            check_pure(self, is_component, T, value)


class AllComponentsTest(unittest.TestCase):
    def test_example(self):
        self.assertEqual(repr(all_components(T)), "((0,), (0, 1, 2), (0, 1, 2, 3), (1,), (2,), (3,))")

    def test_all_of_them_in_ascending_order(self):
        for table in [*every_shape(), *all_tables(5)]:
            self.assertEqual(repr(all_components(table)), repr(tuple(sorted(component_family(table)))))

    def test_one_alternative(self):
        self.assertEqual(all_components((".",)), ((0,),))

    def test_linear_tables(self):
        for size in range(1, 10):
            runs = sorted(tuple(range(low, high)) for low in range(size) for high in range(low + 1, size + 1))
            self.assertEqual(all_components(linear_table(size)), tuple(runs))

    def test_equal_calls_and_arguments(self):
        for table in (T, U, *shaped_tables(9)[:6]):
            check_pure(self, all_components, table)


class PartsTest(unittest.TestCase):
    def test_example(self):
        self.assertEqual(
            repr([parts(T), summary(T), parts(U)]), "[((0, 1, 2), (3,)), ('.+', '-.'), ((0,), (1, 2), (3,))]"
        )

    def test_by_the_definition(self):
        for table in [*every_shape(), *all_tables(5)]:
            self.assertEqual(repr(parts(table)), repr(plain_parts(table)))

    def test_disjoint_components_that_are_all_alternatives(self):
        for table in every_shape():
            found = parts(table)
            self.assertEqual(sorted(itertools.chain(*found)), list(range(len(table))))
            self.assertTrue(all(is_plain_component(table, part) for part in found))
            self.assertEqual([part[0] for part in found], sorted(part[0] for part in found))

    def test_the_tables_are_of_both_sorts(self):
        strong = [table for table in every_shape() if len(dominant_family(table)) == 1]
        self.assertTrue(any(len(part) > 1 for table in strong for part in parts(table)))
        self.assertGreater(len(every_shape()) - len(strong), 20)

    def test_layers_that_are_not_in_the_order_of_their_lowest_alternatives(self):
        self.assertEqual(parts(relabeled(linear_table(4), (3, 1, 0, 2))), ((0,), (1,), (2,), (3,)))
        self.assertEqual(parts(relabeled(T, (3, 0, 1, 2))), ((0,), (1, 2, 3)))
        self.assertEqual(summary(relabeled(T, (3, 0, 1, 2))), (".-", "+."))

    def test_one_alternative(self):
        self.assertEqual([parts((".",)), summary((".",))], [((0,),), (".",)])

    def test_summary_is_the_table_of_the_parts(self):
        for table in [*every_shape(), *all_tables(5)]:
            found, small = parts(table), summary(table)
            self.assertTrue(is_table(small))
            self.assertEqual(len(small), len(found))
            for (k, part), (m, other) in itertools.permutations(enumerate(found), 2):
                signs = {beats(table, one, lost) for one in part for lost in other}
                self.assertEqual(signs, {beats(small, k, m)})

    def test_equal_calls_and_arguments(self):
        for table in (T, U, *shaped_tables(9)):
            check_pure(self, parts, table)
            check_pure(self, summary, table)


class ReplaceTest(unittest.TestCase):
    def test_example(self):
        self.assertEqual(
            repr(replace_alternatives((".+", "-."), (C, (".",)))), "('.+-+', '-.++', '+-.+', '---.')"
        )

    def test_by_the_definition(self):
        chance = random.Random(11)
        many = 0
        while many < 300:
            table = drawn_table(chance, chance.randint(1, 5))
            tables = tuple(drawn_table(chance, chance.randint(1, 4)) for _ in table)
            if sum(map(len, tables)) <= 9:
                many += 1
                self.assertEqual(repr(replace_alternatives(table, tables)), repr(replaced(table, tables)))

    def test_too_large_exactly_with_more_than_nine(self):
        for sizes in itertools.product(range(1, 10), repeat=2):
            tables = tuple(map(circle, sizes))
            if sum(sizes) <= 9:
                self.assertEqual(replace_alternatives((".-", "+."), tables), replaced((".-", "+."), tables))
            else:
                self.assertEqual(raised(TooLarge, replace_alternatives, (".-", "+."), tables).limit, 9)
        self.assertEqual(replace_alternatives(circle(9), ((".",),) * 9), circle(9))
        self.assertEqual(raised(TooLarge, replace_alternatives, circle(9), (C,) + ((".",),) * 8).limit, 9)
        self.assertEqual(raised(TooLarge, replace_alternatives, circle(9), (circle(9),) * 9).limit, 9)
        self.assertEqual(replace_alternatives((".",), (circle(9),)), circle(9))

    def test_the_summary_with_the_tables_of_the_parts(self):
        for table in every_shape():
            found = parts(table)
            order = tuple(itertools.chain(*found))
            tables = tuple(restrict_table(table, part) for part in found)
            self.assertEqual(replace_alternatives(summary(table), tables), relabeled(table, order))

    def test_equal_calls_and_arguments(self):
        check_pure(self, replace_alternatives, (".+", "-."), (C, (".",)))
        check_pure(self, replace_alternatives, (".+", "-."), (circle(5), circle(5)))


if __name__ == "__main__":
    unittest.main()
