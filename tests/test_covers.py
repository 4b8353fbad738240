"""Points [3] and [6] of section 3: covering of alternatives."""

import itertools
import unittest

from duelsets.covers import coverers, uncovered_certificate, uncovered_holds, uncovered_set
from tests.definitions import covers, right_uncovered
from tests.samples import T, U, all_tables, beats, check_pure, odd_certificates, spoiled
from tests.shapes import circle, every_shape, linear_table, shaped_tables


class CoverersTest(unittest.TestCase):
    def test_example(self):
        self.assertEqual(repr([coverers(U, 2), coverers(U, 0)]), "[(1,), ()]")

    def test_by_the_definition(self):
        for table in [*every_shape(), *all_tables(5)]:
            for one in range(len(table)):
                expected = tuple(other for other in range(len(table)) if covers(table, other, one))
                self.assertEqual(repr(coverers(table, one)), repr(expected))

    def test_linear_tables_and_circles(self):
        for size in range(1, 10):
            for one in range(size):
                self.assertEqual(coverers(linear_table(size), one), tuple(range(one)))
                if size % 2:
                    self.assertEqual(coverers(circle(size), one), ())

    def test_equal_calls_and_arguments(self):
        for table in (T, U, *shaped_tables(9)):
            for one in range(len(table)):
                check_pure(self, coverers, table, one)


class UncoveredTest(unittest.TestCase):
    def test_example(self):
        self.assertEqual(repr(uncovered_set(U)), "(0, 1, 3)")

    def test_those_without_a_coverer(self):
        for table in [*every_shape(), *all_tables(5)]:
            size = len(table)
            expected = tuple(
                one for one in range(size) if not any(covers(table, other, one) for other in range(size))
            )
            self.assertEqual(repr(uncovered_set(table)), repr(expected))

    def test_those_that_reach_all_others_in_two_steps(self):
        for table in every_shape():
            size = len(table)
            expected = tuple(one for one in range(size) if all(
                beats(table, one, other)
                or any(beats(table, one, middle) and beats(table, middle, other) for middle in range(size))
                for other in range(size) if other != one
            ))
            self.assertEqual(uncovered_set(table), expected)

    def test_greatest_scores_are_uncovered(self):
        for table in every_shape():
            most = max(row.count("+") for row in table)
            best = {one for one, row in enumerate(table) if row.count("+") == most}
            self.assertLessEqual(best, set(uncovered_set(table)))

    def test_one_alternative(self):
        self.assertEqual(uncovered_set((".",)), (0,))

    def test_equal_calls_and_arguments(self):
        for table in shaped_tables(9):
            check_pure(self, uncovered_set, table)


class CertificateTest(unittest.TestCase):
    def test_example(self):
        self.assertEqual(
            repr([uncovered_certificate(U, 3), uncovered_certificate(U, 2)]),
            "[('in', (None, 0, 0, None)), ('out', 1)]",
        )

    def test_right_for_each_alternative(self):
        for table in every_shape():
            size = len(table)
            for one in range(size):
                covered = any(covers(table, other, one) for other in range(size))
                certificate = uncovered_certificate(table, one)
                self.assertEqual(certificate[0], "out" if covered else "in")
                self.assertTrue(right_uncovered(table, one, certificate), (table, one, certificate))
                self.assertIs(uncovered_holds(table, one, certificate), True)

    def test_none_exactly_for_itself_and_those_that_it_beats(self):
        for table in every_shape():
            for one in uncovered_set(table):
                word, middles = uncovered_certificate(table, one)
                for other, middle in enumerate(middles):
                    self.assertEqual(middle is None, other == one or beats(table, one, other))

    def test_one_alternative(self):
        self.assertEqual(uncovered_certificate((".",), 0), ("in", (None,)))

    def test_equal_calls_and_arguments(self):
        for table in (T, U, *shaped_tables(9)):
            for one in range(len(table)):
                check_pure(self, uncovered_certificate, table, one)


class HoldsTest(unittest.TestCase):
    def check(self, table, one, value):
        result = uncovered_holds(table, one, value)
        self.assertIs(result, right_uncovered(table, one, value), (table, one, repr(value)[:200]))

    def test_example(self):
        self.assertEqual(
            repr([uncovered_holds(U, 3, ("in", (None, 0, 0, None))), uncovered_holds(U, 2, ("out", 0))]),
            "[True, False]",
        )

    def test_all_middles(self):
        for table in [*all_tables(1), *all_tables(2), *all_tables(3), *all_tables(4)[::5], U]:
            size = len(table)
            for middles in itertools.product([None, *range(size)], repeat=size):
                for one in range(size):
                    self.check(table, one, ("in", middles))

    def test_all_right_middles_are_accepted(self):
        for table in every_shape()[::3]:
            size = len(table)
            for one in uncovered_set(table):
                choices = [
                    [None] if other == one or beats(table, one, other)
                    else [k for k in range(size) if beats(table, one, k) and beats(table, k, other)]
                    for other in range(size)
                ]
                for middles in itertools.islice(itertools.product(*choices), 200):
                    self.assertIs(uncovered_holds(table, one, ("in", middles)), True)

    def test_all_numbers_as_coverers(self):
        for table in every_shape():
            size = len(table)
            for one in range(size):
                for other in range(-size - 1, size + 2):
                    self.check(table, one, ("out", other))

    def test_bools_are_not_numbers(self):
        self.assertIs(uncovered_holds(U, 3, ("in", (None, False, 0, None))), False)
        self.assertIs(uncovered_holds(U, 3, ("in", (None, False, False, None))), False)
        self.assertIs(uncovered_holds(U, 2, ("out", 1)), True)
        self.assertIs(uncovered_holds(U, 2, ("out", True)), False)
        self.assertIs(uncovered_holds((".+", "-."), 1, ("out", 0)), True)
        self.assertIs(uncovered_holds((".+", "-."), 1, ("out", False)), False)

    def test_none_at_another_place(self):
        for middles in ((None, None, 0, None), (0, 0, 0, None), (None, 0, 0, 0), (None, 0, None, None), (None,) * 4):
            self.assertIs(uncovered_holds(U, 3, ("in", middles)), False)

    def test_any_value(self):
        for size in range(1, 10):
            for table in shaped_tables(size)[:2]:
                for value in odd_certificates(size):
                    self.check(table, size - 1, value)

    def test_results_with_parts_replaced(self):
        for size in range(1, 10):
            for table in shaped_tables(size)[:8]:
                for one in {0, size // 2, size - 1}:
                    for value in spoiled(uncovered_certificate(table, one), size):
                        self.check(table, one, value)

    def test_equal_calls_and_arguments(self):
        for value in odd_certificates(4) + [("in", (None, 0, 0, None)), ("out", 1)]:
            check_pure(self, uncovered_holds, U, 3, value)
            check_pure(self, uncovered_holds, U, 2, value)


if __name__ == "__main__":
    unittest.main()
