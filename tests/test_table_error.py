"""Point [4], section 1: is_table and table_error."""

import itertools
import unittest

from duelsets.tables import is_table, table_error
from tests.samples import T, U, check_pure, deep_value, many_tables, odd_values, some_tables


def texts(characters, lengths):
    return ["".join(chosen) for length in lengths for chosen in itertools.product(characters, repeat=length)]


def expected_error(value):
    """The error as section 1 defines it, from the lists of all errors of each kind."""
    if type(value) is not tuple or len(value) not in range(1, 10):
        return (None, None, "table")
    size = range(len(value))
    rows = [(i, None, "row") for i in size if type(value[i]) is not str or len(value[i]) != len(value)]
    if rows:
        return min(rows, key=lambda error: error[0])
    places = list(itertools.product(size, size))
    signs = [(i, j, "sign") for i, j in places if value[i][j] not in ("." if i == j else "+-")]
    pairs = [(i, j, "pair") for i, j in places if i < j and value[i][j] == value[j][i]]
    return [*sorted(signs), *sorted(pairs), None][0]


def with_sign(table, i, j, sign):
    rows = list(table)
    rows[i] = rows[i][:j] + sign + rows[i][j + 1:]
    return tuple(rows)


def with_row(table, i, row):
    rows = list(table)
    rows[i] = row
    return tuple(rows)


class TableErrorTest(unittest.TestCase):
    def check(self, value, expected):
        error = table_error(value)
        self.assertEqual(repr(error), repr(expected), repr(value)[:200])
        self.assertIs(is_table(value), expected is None, repr(value)[:200])

    def check_all(self, values):
        for value in values:
            self.check(value, expected_error(value))

    def test_examples(self):
        self.assertEqual(
            repr([is_table((".+-", "-.+", "+-.")), is_table((".+", "+.")), is_table(())]), "[True, False, False]"
        )
        self.assertEqual(
            repr([table_error((".+", "+.")), table_error((".+", "-")), table_error(("x",))]),
            "[(0, 1, 'pair'), (1, None, 'row'), (0, 0, 'sign')]",
        )

    def test_tables_of_one_to_nine_alternatives(self):
        for table in many_tables():
            self.check(table, None)

    def test_numbers_of_items(self):
        self.check((), (None, None, "table"))
        for size in (10, 11, 30):
            self.check(tuple("-" * i + "." + "+" * (size - 1 - i) for i in range(size)), (None, None, "table"))
            self.check((None,) * size, (None, None, "table"))

    def test_values_that_are_not_tuples(self):
        for value in odd_values():
            self.check(value, (None, None, "table"))
        for table in (T, U, (".",)):
            self.check(list(table), (None, None, "table"))
            self.check("\n".join(table), (None, None, "table"))
            self.check(dict.fromkeys(table, "."), (None, None, "table"))

    def test_rows_that_are_not_texts(self):
        for value in odd_values():
            if not isinstance(value, str):
                self.check((value,), (0, None, "row"))
                self.check((".+", value), (1, None, "row"))
                self.check((value, value), (0, None, "row"))
                self.check((value, "x", None), (0, None, "row"))
        self.check(([".", "+"], "-."), (0, None, "row"))
        self.check((".+", ("-", ".")), (1, None, "row"))
        self.check((".+", {"-": 0, ".": 1}), (1, None, "row"))
        self.check(((".",),), (0, None, "row"))
        self.check((deep_value(20)[0],), (0, None, "row"))

    def test_rows_of_other_lengths(self):
        self.check(("",), (0, None, "row"))
        self.check(("..",), (0, None, "row"))
        self.check((".+", ""), (1, None, "row"))
        self.check(("", ""), (0, None, "row"))
        self.check((".+\n", "-."), (0, None, "row"))
        for size in range(2, 10):
            for table in some_tables(size)[:4]:
                for i in range(size):
                    for row in ("", table[i][1:], table[i] + "+", table[i] * 2, " " * 2000):
                        self.check(with_row(table, i, row), (i, None, "row"))
                        self.check(with_row(with_row(table, size - 1, ""), i, row), (i, None, "row"))

    def test_signs(self):
        for size in range(1, 10):
            table = some_tables(size)[-1]
            for i, j in itertools.product(range(size), repeat=2):
                for sign in " x0#=\n" + ("+-" if i == j else "."):
                    self.check(with_sign(table, i, j, sign), (i, j, "sign"))
                    self.check(with_sign(with_sign(table, size - 1, size - 1, "+"), i, j, sign), (i, j, "sign"))

    def test_pairs(self):
        for size in range(2, 10):
            for table in some_tables(size)[-3:]:
                for i, j in itertools.combinations(range(size), 2):
                    for sign in "+-":
                        both = with_sign(with_sign(table, i, j, sign), j, i, sign)
                        self.check(both, (i, j, "pair"))
                        last = with_sign(both, size - 1, size - 2, both[size - 2][size - 1])
                        self.check(last, (i, j, "pair"))

    def test_rows_come_before_signs_and_signs_before_pairs(self):
        self.check(("x+", "+"), (1, None, "row"))
        self.check(("++", None), (1, None, "row"))
        self.check((".+", "+x"), (1, 1, "sign"))
        self.check((".+x", "+.+", "---"), (0, 2, "sign"))
        self.check((".++", "+.+", "--+"), (2, 2, "sign"))
        self.check((".+-", "+.+", "--."), (0, 1, "pair"))
        self.check((".+-", "-.+", "-+."), (0, 2, "pair"))
        self.check((".++", "-.+", "-+."), (1, 2, "pair"))
        self.check(("x",) * 10, (None, None, "table"))

    def test_all_small_values(self):
        self.check_all((row,) for row in texts(".+-x", range(4)))
        self.check_all(itertools.product(texts(".+-x", range(4)), repeat=2))
        self.check_all(itertools.product(texts(".+-", [3]), repeat=3))

    def test_number_of_tables(self):
        for size, number in ((1, 1), (2, 2), (3, 8)):
            found = [rows for rows in itertools.product(texts(".+-", [size]), repeat=size) if is_table(rows)]
            self.assertEqual(len(found), number)

    def test_equal_calls_and_arguments(self):
        for value in [*odd_values(), T, U, (), ([".", "+"], "-."), (".+", "+."), (".x", "+.")]:
            check_pure(self, table_error, value)
            check_pure(self, is_table, value)

    def test_later_changes_have_no_effect(self):
        row = [".", "+"]
        error = table_error((".+", row))
        row.clear()
        self.assertEqual(error, (1, None, "row"))


if __name__ == "__main__":
    unittest.main()
