"""Points [3] and [5], section 2: top sets."""

import itertools
import unittest

from duelsets.tops import dominant_sets, layers, top_certificate, top_holds, top_set
from tests.definitions import dominant_family, is_dominant, reached_from, right_top
from tests.samples import T, U, all_tables, beats, check_pure, odd_certificates, spoiled
from tests.shapes import every_shape, linear_table, relabeled, shaped_tables

C = (".+-", "-.+", "+-.")


class LayersTest(unittest.TestCase):
    def test_example(self):
        self.assertEqual(repr(layers(T)), "((0, 1, 2), (3,))")

    def test_each_alternative_once(self):
        for table in every_shape():
            found = layers(table)
            self.assertIs(type(found), tuple)
            for layer in found:
                self.assertEqual(repr(layer), repr(tuple(sorted(layer))))
                self.assertGreater(len(layer), 0)
            self.assertEqual(sorted(itertools.chain(*found)), list(range(len(table))))

    def test_each_layer_beats_all_later_ones(self):
        for table in every_shape():
            for layer, later in itertools.combinations(layers(table), 2):
                self.assertTrue(all(beats(table, one, other) for one in layer for other in later))

    def test_a_layer_has_one_layer(self):
        for table in every_shape():
            for layer in layers(table):
                self.assertEqual(layers(relabeled(table, layer)), (tuple(range(len(layer))),))

    def test_first_one_and_differences_of_dominant_sets(self):
        for table in every_shape():
            sets = [set(), *map(set, dominant_family(table))]
            differences = tuple(tuple(sorted(sets[k + 1] - sets[k])) for k in range(len(sets) - 1))
            self.assertEqual(layers(table), differences)

    def test_top_set_of_the_others_and_so_on(self):
        for table in every_shape():
            left = list(range(len(table)))
            for layer in layers(table):
                top = top_set(relabeled(table, left))
                self.assertEqual(layer, tuple(left[at] for at in top))
                left = [one for one in left if one not in layer]
            self.assertEqual(left, [])

    def test_linear_tables(self):
        for size in range(1, 10):
            self.assertEqual(layers(linear_table(size)), tuple((one,) for one in range(size)))

    def test_equal_calls_and_arguments(self):
        for table in shaped_tables(9):
            check_pure(self, layers, table)


class DominantTest(unittest.TestCase):
    def test_example(self):
        self.assertEqual(repr(dominant_sets(T)), "((0, 1, 2), (0, 1, 2, 3))")

    def test_exactly_the_dominant_sets_smaller_ones_first(self):
        for table in [*every_shape(), *all_tables(5)]:
            self.assertEqual(repr(dominant_sets(table)), repr(tuple(sorted(dominant_family(table), key=len))))

    def test_one_alternative(self):
        self.assertEqual(dominant_sets((".",)), ((0,),))

    def test_equal_calls_and_arguments(self):
        for table in shaped_tables(9):
            check_pure(self, dominant_sets, table)


class TopSetTest(unittest.TestCase):
    def test_example(self):
        self.assertEqual(repr(top_set(U)), "(0, 1, 2, 3)")

    def test_first_layer(self):
        for table in every_shape():
            self.assertEqual(repr(top_set(table)), repr(layers(table)[0]))
            self.assertEqual(repr(top_set(table)), repr(dominant_sets(table)[0]))

    def test_those_that_reach_all_others(self):
        for table in [*every_shape(), *all_tables(5)]:
            reaching = tuple(one for one in range(len(table)) if len(reached_from(table, one)) == len(table))
            self.assertEqual(repr(top_set(table)), repr(reaching))

    def test_equal_calls_and_arguments(self):
        for table in shaped_tables(9):
            check_pure(self, top_set, table)


class CertificateTest(unittest.TestCase):
    def test_examples(self):
        self.assertEqual(
            repr([top_holds(T, 0, top_certificate(T, 0)), top_certificate(T, 3)]), "[True, ('out', (0, 1, 2))]"
        )
        self.assertEqual(
            repr([top_holds(C, 0, ("in", (None, 0, 1))), top_holds(C, 0, ("in", (None, 0, 0)))]), "[True, False]"
        )

    def test_right_for_each_alternative(self):
        for table in every_shape():
            top = dominant_family(table)[0]
            for one in range(len(table)):
                certificate = top_certificate(table, one)
                self.assertEqual(certificate[0], "in" if one in top else "out")
                self.assertTrue(right_top(table, one, certificate), (table, one, certificate))
                self.assertIs(top_holds(table, one, certificate), True)

    def test_one_alternative(self):
        self.assertEqual(top_certificate((".",), 0), ("in", (None,)))

    def test_equal_calls_and_arguments(self):
        for table in (T, U, C, *shaped_tables(9)):
            for one in range(len(table)):
                check_pure(self, top_certificate, table, one)


class HoldsTest(unittest.TestCase):
    def check(self, table, one, value):
        self.assertIs(top_holds(table, one, value), right_top(table, one, value), (table, one, repr(value)[:200]))

    def check_steps(self, table):
        for steps in itertools.product([None, *range(len(table))], repeat=len(table)):
            for one in range(len(table)):
                self.check(table, one, ("in", steps))

    def test_all_steps(self):
        for size in range(1, 4):
            for table in all_tables(size):
                self.check_steps(table)
        for table in all_tables(4)[::5]:
            self.check_steps(table)

    def test_all_right_steps_are_accepted(self):
        for table in all_tables(4) + list(shaped_tables(5)):
            size = len(table)
            for one in dominant_family(table)[0]:
                choices = [
                    [None] if other == one else [beater for beater in range(size) if beats(table, beater, other)]
                    for other in range(size)
                ]
                for steps in itertools.product(*choices):
                    self.check(table, one, ("in", steps))

    def test_all_tuples_of_numbers_as_sets(self):
        for size in range(1, 4):
            for table in all_tables(size):
                for length in range(size + 2):
                    for value in itertools.product(range(-1, size + 1), repeat=length):
                        for one in range(size):
                            self.check(table, one, ("out", value))

    def test_each_dominant_set(self):
        for table in every_shape():
            for members in dominant_family(table):
                for one in range(len(table)):
                    self.assertIs(top_holds(table, one, ("out", members)), one not in members)

    def test_sets_that_are_not_dominant(self):
        for table in every_shape()[::4]:
            for members in itertools.chain(*(itertools.combinations(range(len(table)), k) for k in range(4))):
                if not is_dominant(table, members):
                    for one in range(len(table)):
                        self.assertIs(top_holds(table, one, ("out", members)), False)

    def test_steps_in_a_circle(self):
        table = (".++++", "-.+-+", "--.++", "-+-.+", "----.")
        self.assertIs(top_holds(table, 0, ("in", (None, 0, 0, 0, 0))), True)
        self.assertIs(top_holds(table, 0, ("in", (None, 0, 1, 2, 3))), True)
        self.assertIs(top_holds(table, 0, ("in", (None, 3, 1, 2, 0))), False)
        self.assertIs(top_holds(table, 0, ("in", (None, 3, 1, 2, 3))), False)

    def test_none_at_another_place(self):
        self.assertIs(top_holds(C, 0, ("in", (None, None, 1))), False)
        self.assertIs(top_holds(C, 0, ("in", (2, None, 1))), False)
        self.assertIs(top_holds(C, 0, ("in", (2, 0, 1))), False)
        self.assertIs(top_holds(C, 1, ("in", (None, 0, 1))), False)
        self.assertIs(top_holds(C, 1, ("in", (2, None, 1))), True)

    def test_bools_are_not_numbers(self):
        for steps in ((None, False, 1), (None, 0, True), (None, False, True), (False, 0, 1)):
            self.assertIs(top_holds(C, 0, ("in", steps)), False)
        for members in ((False,), (False, True, 2), (0, True, 2), (False, 1, 2)):
            self.assertIs(top_holds(T, 3, ("out", members)), False)

    def test_lists_and_other_words(self):
        right = (None, 0, 1)
        for value in (["in", right], ("in", list(right)), ("out", right), ("IN", right), ("in", right, None), right):
            self.assertIs(top_holds(C, 0, value), False)
        self.assertIs(top_holds(T, 3, ("out", [0, 1, 2])), False)
        self.assertIs(top_holds(T, 3, ["out", (0, 1, 2)]), False)
        self.assertIs(top_holds(T, 3, ("out", (2, 1, 0))), False)
        self.assertIs(top_holds(T, 3, ("out", (0, 1, 2, 2))), False)

    def test_any_value(self):
        for size in range(1, 10):
            for table in shaped_tables(size)[:2]:
                for value in odd_certificates(size):
                    self.check(table, size - 1, value)

    def test_results_with_parts_replaced(self):
        for size in range(1, 10):
            for table in shaped_tables(size)[:8]:
                for one in {0, size // 2, size - 1}:
                    for value in spoiled(top_certificate(table, one), size):
                        self.check(table, one, value)

    def test_equal_calls_and_arguments(self):
        for value in odd_certificates(3) + [("in", (None, 0, 1)), ("out", (0, 1))]:
            check_pure(self, top_holds, C, 0, value)


if __name__ == "__main__":
    unittest.main()
