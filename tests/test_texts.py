"""Points [3] and [18] of section 10: texts."""

import itertools
import unittest

from duelsets.errors import BadText
from duelsets.tables import is_table, table_error
from duelsets.texts import parse_order, parse_table, set_text, table_text
from tests.samples import T, U, all_tables, check_pure, odd_values, raised, sets_by_size
from tests.shapes import every_shape, linear_table, shaped_tables, shuffled_order

C = (".+-", "-.+", "+-.")


def not_texts():
    return [value for value in odd_values() if not isinstance(value, str)] + [0, (), (".",), T, ["."], (".+", "-.")]


def expected_order_error(size, text):
    """Point [18]: the error of a text as an order, word by word; None if it is one."""
    words, seen = text.split(" "), []
    for at, word in enumerate(words):
        if word not in [str(one) for one in range(size)] or word in seen:
            return at
        seen.append(word)
    return len(words) if len(seen) < size else None


class TextsTest(unittest.TestCase):
    def test_example(self):
        self.assertEqual(
            repr([table_text((".+", "-.")), set_text((0, 12)), set_text(())]), repr([".+\n-.", "0 12", "none"])
        )

    def test_tables(self):
        for table in every_shape():
            text = table_text(table)
            self.assertEqual(text.split("\n"), list(table))
            self.assertEqual(text.count("\n"), len(table) - 1)

    def test_sets_and_orders(self):
        for size in range(1, 10):
            for members in sets_by_size(size)[1:]:
                self.assertEqual(set_text(members), " ".join(map(str, members)))
            order = shuffled_order(size, size)
            self.assertEqual(set_text(order), " ".join(map(str, order)))
        self.assertEqual(set_text((10 ** 29, 0, 100, 7)), "1" + "0" * 29 + " 0 100 7")
        self.assertEqual(set_text((0,)), "0")

    def test_equal_calls_and_arguments(self):
        for table in (T, U, *shaped_tables(9)[:3]):
            check_pure(self, table_text, table)
        for members in ((), (0,), (0, 12), (3, 1)):
            check_pure(self, set_text, members)


class ParseTableTest(unittest.TestCase):
    def check(self, text):
        lines = tuple(text.split("\n"))
        error = table_error(lines)
        if error is None:
            self.assertEqual(repr(parse_table(text)), repr(lines))
        else:
            self.assertEqual(repr(raised(BadText, parse_table, text).error), repr(error), repr(text))

    def test_example(self):
        self.assertEqual(raised(BadText, parse_table, ".+\n+.").error, (0, 1, "pair"))

    def test_there_and_back(self):
        for table in every_shape():
            self.assertEqual(repr(parse_table(table_text(table))), repr(table))

    def test_not_a_text(self):
        for value in not_texts():
            self.assertIsNone(raised(BadText, parse_table, value).error)

    def test_the_error_of_the_lines(self):
        for length in range(6):
            for signs in itertools.product(".+-\n", repeat=length):
                self.check("".join(signs))

    def test_lines(self):
        for text, error in (
            ("", (0, None, "row")),
            (".\n", (0, None, "row")),
            ("\n", (0, None, "row")),
            (".+\n-.\n", (0, None, "row")),
            ("\n.+\n-.", (0, None, "row")),
            (".+\n\n-.", (0, None, "row")),
            (".++\n-.+\n", (2, None, "row")),
            (".+/-.", (0, None, "row")),
            (" .", (0, None, "row")),
            ("x", (0, 0, "sign")),
            ("\n" * 8, (0, None, "row")),
            ("\n" * 9, (None, None, "table")),
            ("\n".join(linear_table(10)), (None, None, "table")),
            ("a" * 2000, (0, None, "row")),
        ):
            self.assertEqual(raised(BadText, parse_table, text).error, error, repr(text))

    def test_texts_with_parts_replaced(self):
        for table in (T, U, C, *shaped_tables(9)[:2]):
            text = table_text(table)
            for at in range(len(text)):
                for sign in (".", "+", "-", "\n", "", " ", "x", ".."):
                    self.check(text[:at] + sign + text[at + 1:])

    def test_equal_calls_and_arguments(self):
        for value in [*not_texts(), "", ".", ".+\n-.", ".+\n+."]:
            check_pure(self, parse_table, value)


class ParseOrderTest(unittest.TestCase):
    def check(self, table, text):
        error = expected_order_error(len(table), text)
        if error is None:
            self.assertEqual(repr(parse_order(table, text)), repr(tuple(map(int, text.split(" ")))))
        else:
            self.assertEqual(repr(raised(BadText, parse_order, table, text).error), repr(error), text)

    def test_example(self):
        self.assertEqual(raised(BadText, parse_order, C, "2 0 0").error, 2)

    def test_there_and_back(self):
        for size in range(1, 10):
            for seed in range(20):
                order = shuffled_order(seed, size)
                self.assertEqual(repr(parse_order(linear_table(size), set_text(order))), repr(order))

    def test_not_a_text(self):
        for value in [*not_texts(), (0, 1, 2)]:
            self.assertIsNone(raised(BadText, parse_order, C, value).error)

    def test_all_short_texts(self):
        for length in range(6):
            for signs in itertools.product("012 ", repeat=length):
                for table in (C, (".+", "-."), (".",)):
                    self.check(table, "".join(signs))

    def test_words(self):
        for text, error in (
            ("", 0),
            (" ", 0),
            ("none", 0),
            ("0 none", 1),
            ("0 1", 2),
            ("0", 1),
            ("0 1 2 ", 3),
            ("0 1 2 3", 3),
            (" 0 1 2", 0),
            ("0  1 2", 1),
            ("00 1 2", 0),
            ("0 01 2", 1),
            ("+0 1 2", 0),
            ("-0 1 2", 0),
            ("0 -1 2", 1),
            ("0 1 3", 2),
            ("0 1 1", 2),
            ("0 0 x", 1),
            ("0,1,2", 0),
            ("0\n1\n2", 0),
            ("0 1 2\n", 2),
            ("0 1 2.0", 2),
            ("True 1 2", 0),
            ("0 1 " + "2" * 30, 2),
        ):
            self.assertEqual(raised(BadText, parse_order, C, text).error, error, repr(text))

    def test_texts_with_parts_replaced(self):
        for size in (1, 2, 5, 9):
            text = set_text(shuffled_order(size, size))
            for at in range(len(text)):
                for sign in ("", " ", "0", "1", "8", "9", "x", "-", "00", "\n"):
                    self.check(linear_table(size), text[:at] + sign + text[at + 1:])

    def test_equal_calls_and_arguments(self):
        for value in [*not_texts(), "", "0 1 2", "2 0 0", "2 0"]:
            check_pure(self, parse_order, C, value)

    def test_the_result_is_a_tuple_of_numbers(self):
        for table in all_tables(2):
            self.assertTrue(is_table(table))
            self.assertEqual([type(one) for one in parse_order(table, "1 0")], [int, int])


if __name__ == "__main__":
    unittest.main()
