"""Points [3] and [4], section 1: the functions over tables."""

import itertools
import unittest

from duelsets.errors import NoAlternative, NoSet, SameAlternative
from duelsets.tables import (
    all_sets, is_table, losses_of, relabel_table, restrict_table, scores, table_error, turn_duel, wins_of,
)
from tests.samples import (
    T, U, beats, check_pure, many_tables, odd_values, raised, sets_by_size, some_tables, table_of_bits,
)


def not_alternatives(size):
    return [-1, -size, size, size + 1, 1000, (), (0,), (0, 1), T, *odd_values()]


def not_sets(size):
    """Values that are not sets of this many alternatives that are not empty."""
    last = size - 1
    return [
        *odd_values(), (), 0, 1, (size,), (-1,), (-1, 0), (0, size), (last, size), (0, 10 ** 29), (0, 0), (last, last),
        (True,), (False,), (False, True), (False, 1), (0, True), (0, None), (0, "1"), ("0",), ("",), (None,), ((0,),),
        (0, (1,)), ([0],), ([],), ({},), tuple(range(size))[::-1] * 2, tuple(range(size)) + (last,),
        tuple(range(size + 1)), list(range(size)), "".join(str(one) for one in range(size)),
        {str(one): one for one in range(size)}, T, U,
    ]


class WinsTest(unittest.TestCase):
    def test_example(self):
        self.assertEqual(repr([wins_of(U, 0), losses_of(U, 0)]), "[(1, 2), (3,)]")

    def test_all_alternatives(self):
        for table in many_tables():
            for one in range(len(table)):
                others = [other for other in range(len(table)) if other != one]
                wins = tuple(other for other in others if beats(table, one, other))
                losses = tuple(other for other in others if beats(table, other, one))
                self.assertEqual(repr(wins_of(table, one)), repr(wins))
                self.assertEqual(repr(losses_of(table, one)), repr(losses))

    def test_one_win_between_each_two(self):
        for table in many_tables():
            for one, other in itertools.combinations(range(len(table)), 2):
                won, lost = other in wins_of(table, one), one in wins_of(table, other)
                self.assertNotEqual(won, lost)
                self.assertEqual(won, one in losses_of(table, other))
                self.assertEqual(lost, other in losses_of(table, one))

    def test_one_alternative(self):
        self.assertEqual([wins_of((".",), 0), losses_of((".",), 0)], [(), ()])

    def test_no_alternative(self):
        for size in range(1, 10):
            table = some_tables(size)[-1]
            for value in not_alternatives(size):
                with self.subTest(size=size, value=repr(value)[:80]):
                    self.assertIs(raised(NoAlternative, wins_of, table, value).value, value)
                    self.assertIs(raised(NoAlternative, losses_of, table, value).value, value)

    def test_equal_calls_and_arguments(self):
        for value in [0, 3, *not_alternatives(4)]:
            check_pure(self, wins_of, U, value)
            check_pure(self, losses_of, U, value)


class ScoresTest(unittest.TestCase):
    def test_example(self):
        self.assertEqual(repr(scores(U)), "(2, 2, 1, 1)")

    def test_all_tables(self):
        for table in many_tables():
            size = len(table)
            expected = tuple(sum(beats(table, one, other) for other in range(size)) for one in range(size))
            self.assertEqual(repr(scores(table)), repr(expected))
            self.assertEqual(sum(scores(table)), size * (size - 1) // 2)

    def test_one_alternative(self):
        self.assertEqual(scores((".",)), (0,))

    def test_equal_calls_and_arguments(self):
        for table in some_tables(9):
            check_pure(self, scores, table)


class RestrictTest(unittest.TestCase):
    def test_example(self):
        self.assertEqual(repr(restrict_table(U, (0, 1, 3))), "('.+-', '-.+', '+-.')")

    def test_all_sets(self):
        for size in range(1, 7):
            for table in some_tables(size):
                for members in sets_by_size(size)[1:]:
                    self.check_restricted(table, members)

    def test_sets_of_greater_tables(self):
        for size in range(7, 10):
            for table in some_tables(size)[:4]:
                for members in sets_by_size(size)[1::5]:
                    self.check_restricted(table, members)

    def check_restricted(self, table, members):
        small = restrict_table(table, members)
        self.assertIsNone(table_error(small))
        self.assertEqual(len(small), len(members))
        for k, one in enumerate(members):
            for m, other in enumerate(members):
                self.assertEqual(beats(small, k, m), beats(table, one, other))

    def test_all_alternatives_and_single_ones(self):
        for table in many_tables():
            self.assertEqual(restrict_table(table, tuple(range(len(table)))), table)
            for one in range(len(table)):
                self.assertEqual(restrict_table(table, (one,)), (".",))

    def test_no_set(self):
        for size in range(1, 10):
            table = some_tables(size)[-1]
            for value in not_sets(size):
                with self.subTest(size=size, value=repr(value)[:80]):
                    self.assertIs(raised(NoSet, restrict_table, table, value).value, value)

    def test_tuples_that_are_not_ascending(self):
        for size in range(1, 4):
            table = some_tables(size)[-1]
            sets = sets_by_size(size)[1:]
            for length in range(size + 2):
                for value in itertools.product(range(size + 1), repeat=length):
                    if value not in sets:
                        self.assertIs(raised(NoSet, restrict_table, table, value).value, value)

    def test_a_bool_at_each_place(self):
        for value in ((False,), (True,), (False, 1, 2), (0, True, 2), (False, True, 2), (True, 2)):
            self.assertIs(raised(NoSet, restrict_table, U, value).value, value)

    def test_equal_calls_and_arguments(self):
        for value in [(0, 1, 3), (2,), *not_sets(4)]:
            check_pure(self, restrict_table, U, value)


class TurnTest(unittest.TestCase):
    def test_example(self):
        self.assertEqual(repr(turn_duel((".+", "-."), 0, 1)), "('.-', '+.')")

    def test_exactly_one_duel_changes(self):
        for table in many_tables():
            size = len(table)
            for one, other in itertools.permutations(range(size), 2):
                turned = turn_duel(table, one, other)
                self.assertIsNone(table_error(turned))
                self.assertEqual(len(turned), size)
                changed = [
                    (i, j) for i in range(size) for j in range(i + 1, size) if beats(table, i, j) != beats(turned, i, j)
                ]
                self.assertEqual(changed, [(min(one, other), max(one, other))])

    def test_turning_again_restores_the_table(self):
        for table in many_tables():
            for one, other in itertools.permutations(range(len(table)), 2):
                self.assertEqual(turn_duel(turn_duel(table, one, other), other, one), table)

    def test_first_value(self):
        for value in not_alternatives(4):
            for other in (0, 3, 4, -1, True, None, [0], value):
                with self.subTest(value=repr(value)[:80], other=repr(other)[:80]):
                    self.assertIs(raised(NoAlternative, turn_duel, U, value, other).value, value)

    def test_second_value(self):
        for value in not_alternatives(4):
            for one in range(4):
                with self.subTest(one=one, value=repr(value)[:80]):
                    self.assertIs(raised(NoAlternative, turn_duel, U, one, value).value, value)

    def test_first_value_before_the_second_one(self):
        for first, second in itertools.permutations(([0], [1], -1, 4, "0", None, True, (0,)), 2):
            self.assertIs(raised(NoAlternative, turn_duel, U, first, second).value, first)

    def test_bools_are_not_alternatives(self):
        self.assertIs(raised(NoAlternative, turn_duel, U, True, 1).value, True)
        self.assertIs(raised(NoAlternative, turn_duel, U, 1, True).value, True)
        self.assertIs(raised(NoAlternative, turn_duel, U, 0, False).value, False)
        self.assertIs(raised(NoAlternative, turn_duel, U, False, 0).value, False)

    def test_same_alternative(self):
        for table in many_tables():
            for one in range(len(table)):
                self.assertIs(raised(SameAlternative, turn_duel, table, one, one).value, one)

    def test_equal_but_not_the_same_number_outside(self):
        for size in (1, 4, 9):
            table = some_tables(size)[-1]
            self.assertEqual(raised(NoAlternative, turn_duel, table, size, size).value, size)
            self.assertEqual(raised(NoAlternative, turn_duel, table, -1, -1).value, -1)

    def test_equal_calls_and_arguments(self):
        for value in not_alternatives(4):
            check_pure(self, turn_duel, U, value, 0)
            check_pure(self, turn_duel, U, 0, value)
        check_pure(self, turn_duel, U, 2, 0)
        check_pure(self, turn_duel, U, 2, 2)


class RelabelTest(unittest.TestCase):
    def test_example(self):
        self.assertEqual(repr(relabel_table(T, (3, 0, 1, 2))), "('.---', '+.+-', '+-.+', '++-.')")

    def orders(self, size):
        if size <= 4:
            return list(itertools.permutations(range(size)))
        steps = [step for step in range(1, size) if all(step % k or size % k for k in range(2, size))]
        cyclic = [tuple((first + step * k) % size for k in range(size)) for step in steps for first in (0, 1, size - 2)]
        return cyclic + [(1, 0, *range(2, size)), (size - 1, *range(size - 1)), (2, 0, 1, *range(3, size))]

    def test_order_k_has_the_number_k(self):
        for size in range(1, 10):
            for table in some_tables(size):
                for order in self.orders(size):
                    new = relabel_table(table, order)
                    self.assertTrue(is_table(new))
                    self.assertEqual(len(new), size)
                    for k, m in itertools.permutations(range(size), 2):
                        self.assertEqual(beats(new, k, m), beats(table, order[k], order[m]))

    def test_the_reverse_order_restores_the_table(self):
        for size in range(1, 10):
            for table in some_tables(size):
                for order in self.orders(size):
                    back = tuple(order.index(one) for one in range(size))
                    self.assertEqual(relabel_table(relabel_table(table, order), back), table)

    def test_the_same_order(self):
        for table in many_tables():
            self.assertEqual(relabel_table(table, tuple(range(len(table)))), table)

    def test_equal_calls_and_arguments(self):
        for order in self.orders(4):
            check_pure(self, relabel_table, T, order)


class AllSetsTest(unittest.TestCase):
    def test_example(self):
        self.assertEqual(repr(all_sets((".+", "-."))), "((), (0,), (0, 1), (1,))")

    def test_each_set_once_in_ascending_order(self):
        for size in range(1, 10):
            table = some_tables(size)[-1]
            self.assertEqual(repr(all_sets(table)), repr(tuple(sorted(sets_by_size(size)))))

    def test_from_the_empty_one_on(self):
        for size in range(1, 10):
            sets = all_sets(some_tables(size)[0])
            self.assertEqual(len(sets), 2 ** size)
            self.assertEqual(sets[0], ())
            self.assertEqual(sets[-1], (size - 1,))
            self.assertTrue(all(sets[k] < sets[k + 1] for k in range(len(sets) - 1)))

    def test_the_winners_do_not_matter(self):
        for size in range(1, 10):
            first, *others = some_tables(size)
            for table in others:
                self.assertEqual(all_sets(table), all_sets(first))

    def test_equal_calls_and_arguments(self):
        for table in (T, U, (".",)):
            check_pure(self, all_sets, table)


class BeyondTheLimitTest(unittest.TestCase):
    """The interface: callers may go somewhat beyond a limit, and no error is raised unless a point says so."""

    def test_ten_alternatives(self):
        table = table_of_bits(10, 0x123456789ABC)
        self.assertEqual(sorted(wins_of(table, 9) + losses_of(table, 9) + (9,)), list(range(10)))
        self.assertEqual(len(scores(table)), 10)
        self.assertTrue(is_table(restrict_table(table, tuple(range(1, 10)))))
        self.assertEqual(turn_duel(turn_duel(table, 0, 9), 0, 9), table)
        self.assertEqual(relabel_table(table, tuple(range(10))), table)
        self.assertEqual(len(all_sets(table)), 1024)


if __name__ == "__main__":
    unittest.main()
