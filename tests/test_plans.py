"""Points [3] and [12], section 7: plans."""

import itertools
import random
import time
import unittest

from duelsets.errors import NoAddress, NoPlans, TooLarge
from duelsets.plans import expand_plan, is_address, is_plan, plan_duel, plan_score, plan_size, series_plan
from duelsets.tables import is_table
from tests.plan_samples import (
    C, P, Q, deep_plan, drawn_plan, flat_plan, great_plan, great_plans, middle_plans, odd_addresses, plain_addresses,
    plain_duel, plain_expanded, plain_size, small_plans,
)
from tests.samples import T, U, all_tables, check_pure, odd_values, raised, spoiled
from tests.shapes import circle, linear_table


def is_plain_plan(value):
    """Point [12], word by word."""
    if type(value) is not tuple or not 1 <= len(value) <= 20:
        return False
    for at, entry in enumerate(value):
        if type(entry) is not tuple or len(entry) != 2 or not is_table(entry[0]):
            return False
        if type(entry[1]) is not tuple or len(entry[1]) != len(entry[0]):
            return False
        if not all(type(child) is int and child in range(-1, at) for child in entry[1]):
            return False
    return True


class IsPlanTest(unittest.TestCase):
    def check(self, value):
        self.assertIs(is_plan(value), is_plain_plan(value), repr(value)[:300])

    def test_example(self):
        self.assertEqual(repr([is_plan((((".",), (-1,)),)), is_plan((((".",), (0,)),))]), "[True, False]")

    def test_plans(self):
        for plan in (*small_plans(), *middle_plans(), *great_plans()):
            self.assertIs(is_plan(plan), True, plan)

    def test_one_to_twenty_entries(self):
        self.assertIs(is_plan(()), False)
        for entries in range(1, 24):
            self.assertIs(is_plan(deep_plan(entries)), entries <= 20)
            self.assertIs(is_plan(flat_plan(U) * entries), entries <= 20)
            self.assertIs(is_plan(great_plan(entries=entries)), entries <= 20)

    def test_children_are_earlier_entries(self):
        for children in itertools.product(range(-3, 4), repeat=2):
            for at in range(3):
                plan = deep_plan(at) + (((".+", "-."), children),) + flat_plan(C)
                self.check(plan)

    def test_children_of_wrong_lengths(self):
        for many in (0, 1, 2, 4, 5, 9, 1000):
            self.assertIs(is_plan(((C, (-1,) * many),)), False)
            self.assertIs(is_plan(flat_plan(U) + ((C, (0,) * many),)), False)

    def test_bools_and_lists(self):
        for children in ((False,), (True,), [-1], [0], -1, 0, None, "0", ("-1",), ((-1,),), {}):
            self.assertIs(is_plan(deep_plan(2) + (((".",), children),)), False, children)
        one = ((".",), (-1,))
        for value in ([one], (([".",], (-1,)),), (list(one),), (((".",), [-1]),), (one + (0,),), (one[:1],), ((),)):
            self.assertIs(is_plan(value), False)
        self.assertIs(is_plan(((".",), (-1,))), False)

    def test_tables(self):
        for table in ((".+", "+."), (), (".+", "-"), "." , (".", "."), ("x",), linear_table(10), None, ("+",)):
            children = (-1,) * len(table or ())
            self.assertIs(is_plan(((table, children),)), False, table)
            self.assertIs(is_plan(flat_plan(C) + ((table, children),)), False, table)

    def test_any_value(self):
        values = [*odd_values(), (), 0, 1, T, U, C, P[0], (P,), (0, 1), ((),), ((), ()), (P[0], P), ((P[0],),)]
        for value in values:
            for wrong in (value, (value,), ((value, value),), ((C, value),), ((value, (-1,)),), (P[0], value)):
                self.check(wrong)

    def test_plans_with_parts_replaced(self):
        for plan in (P, Q, flat_plan((".",)), deep_plan(3), series_plan(P, Q)):
            for value in spoiled(plan, 3):
                self.check(value)

    def test_equal_calls_and_arguments(self):
        for value in [P, Q, *odd_values(), [P], (list(P[0]),)]:
            check_pure(self, is_plan, value)


class SizeTest(unittest.TestCase):
    def test_example(self):
        self.assertEqual(repr(plan_size(P)), "7")

    def test_number_of_addresses(self):
        for plan in (*small_plans(), *middle_plans()):
            self.assertEqual(repr(plan_size(plan)), str(len(plain_addresses(plan))))

    def test_great_plans(self):
        self.assertEqual(plan_size(great_plan()), 9 ** 20)
        self.assertEqual(plan_size(great_plan(U)), 4 ** 20)
        for plan in great_plans():
            self.assertEqual(plan_size(plan), plain_size(plan))

    def test_entries_that_are_not_used(self):
        self.assertEqual(plan_size(great_plan(entries=19) + flat_plan(C)), 3)

    def test_equal_calls_and_arguments(self):
        for plan in (P, Q, *great_plans()):
            check_pure(self, plan_size, plan)


class AddressTest(unittest.TestCase):
    def test_example(self):
        self.assertEqual(repr([is_address(P, (0, 2)), is_address(P, (1,)), is_address(P, (0,))]), "[True, True, False]")

    def test_exactly_the_listed_ones(self):
        for plan in small_plans():
            addresses = set(plain_addresses(plan))
            for address in addresses:
                self.assertIs(is_address(plan, address), True)
            for length in range(4):
                for value in itertools.product(range(-1, 5), repeat=length):
                    self.assertIs(is_address(plan, value), value in addresses, (plan, value))

    def test_longer_ones(self):
        for plan in middle_plans():
            for address in plain_addresses(plan):
                self.assertIs(is_address(plan, address), True)
                for value in (address + (0,), address[:-1], address + address, list(address), (address,)):
                    self.assertIs(is_address(plan, value), False)

    def test_any_value(self):
        for plan in (*small_plans()[::3], *middle_plans()[::5], *great_plans()):
            for value in odd_addresses(plan):
                self.assertIs(is_address(plan, value), False, (plan, repr(value)[:200]))

    def test_bools(self):
        self.assertIs(is_address(P, (True,)), False)
        self.assertIs(is_address(P, (0, True)), False)
        self.assertIs(is_address(P, (False, 1)), False)
        self.assertIs(is_address(flat_plan((".",)), (False,)), False)

    def test_results_with_parts_replaced(self):
        for plan in (P, Q, *small_plans()[-8:]):
            addresses = {repr(address) for address in plain_addresses(plan)}
            for address in plain_addresses(plan)[:3]:
                for value in spoiled(address, 4):
                    self.assertIs(is_address(plan, value), repr(value) in addresses, (plan, value))

    def test_great_plans(self):
        for step in range(9):
            self.assertIs(is_address(great_plan(), (step,) * 20), True)
            self.assertIs(is_address(great_plan(), (step,) * 19), False)
            self.assertIs(is_address(great_plan(), (step,) * 21), False)

    def test_equal_calls_and_arguments(self):
        for value in [(0, 2), (1,), *odd_addresses(P)]:
            check_pure(self, is_address, P, value)


class DuelTest(unittest.TestCase):
    def test_example(self):
        self.assertEqual(
            repr([plan_duel(P, (0, 2), (1,)), plan_duel(P, (2, 0), (2, 2)), plan_duel(P, (1,), (1,))]),
            "['+', '-', '.']",
        )

    def test_all_addresses(self):
        for plan in (*small_plans(), *middle_plans()[::4]):
            for one, other in itertools.product(plain_addresses(plan), repeat=2):
                self.assertEqual(plan_duel(plan, one, other), plain_duel(plan, one, other), (plan, one, other))

    def test_great_plans(self):
        plan = great_plan()
        for at, step in itertools.product(range(20), range(1, 9)):
            one, other = (0,) * 20, (0,) * at + (step,) + (8,) * (19 - at)
            self.assertEqual(plan_duel(plan, one, other), circle(9)[0][step])
            self.assertEqual(plan_duel(plan, other, one), circle(9)[step][0])
            self.assertEqual(plan_duel(plan, other, other), ".")

    def test_no_address(self):
        for plan in (P, Q, *small_plans()[::9], great_plan()):
            right = (0,) * 20 if plan == great_plan() else plain_addresses(plan)[0]
            for value in odd_addresses(plan):
                self.assertIs(raised(NoAddress, plan_duel, plan, value, right).value, value)
                self.assertIs(raised(NoAddress, plan_duel, plan, right, value).value, value)

    def test_the_first_error_first(self):
        first, second = [0], [1]
        self.assertIs(raised(NoAddress, plan_duel, P, first, second).value, first)
        self.assertIs(raised(NoAddress, plan_duel, P, second, first).value, second)

    def test_equal_calls_and_arguments(self):
        for value in [(0, 2), (1,), *odd_addresses(P)]:
            check_pure(self, plan_duel, P, value, (1,))
            check_pure(self, plan_duel, P, (1,), value)


class ScoreTest(unittest.TestCase):
    def test_example(self):
        self.assertEqual(repr([plan_score(P, (0, 0)), plan_score(P, (1,))]), "[2, 3]")

    def test_all_addresses(self):
        for plan in (*small_plans(), *middle_plans()[::4]):
            addresses = plain_addresses(plan)
            for one in addresses:
                wins = sum(plain_duel(plan, one, other) == "+" for other in addresses)
                self.assertEqual(repr(plan_score(plan, one)), str(wins), (plan, one))

    def test_great_plans(self):
        self.assertEqual(plan_score(great_plan(linear_table(9)), (0,) * 20), 9 ** 20 - 1)
        self.assertEqual(plan_score(great_plan(linear_table(9)), (8,) * 20), 0)
        self.assertEqual(plan_score(great_plan(), (4,) * 20), (9 ** 20 - 1) // 2)

    def test_no_address(self):
        for plan in (P, Q, *small_plans()[::9], great_plan()):
            for value in odd_addresses(plan):
                self.assertIs(raised(NoAddress, plan_score, plan, value).value, value)

    def test_equal_calls_and_arguments(self):
        for value in [(0, 2), (1,), *odd_addresses(P)]:
            check_pure(self, plan_score, P, value)


class ExpandTest(unittest.TestCase):
    def test_example(self):
        self.assertEqual(repr(expand_plan((((".+", "-."), (-1, -1)),))), "('.+', '-.')")

    def test_in_the_order_of_the_addresses(self):
        for plan in small_plans():
            self.assertEqual(plain_addresses(plan), sorted(plain_addresses(plan)))
            self.assertEqual(repr(expand_plan(plan)), repr(plain_expanded(plan)))

    def test_flat_plans(self):
        for size in range(1, 5):
            for table in all_tables(size):
                self.assertEqual(expand_plan(flat_plan(table)), table)

    def test_too_large(self):
        for plan in (*middle_plans(), *great_plans()):
            self.assertEqual(raised(TooLarge, expand_plan, plan).limit, 9)
        for size in range(1, 10):
            for other in range(1, 10):
                plan = flat_plan(circle(size)) + flat_plan(circle(other)) + (((".+", "-."), (0, 1)),)
                if size + other <= 9:
                    self.assertEqual(expand_plan(plan), plain_expanded(plan))
                else:
                    self.assertEqual(raised(TooLarge, expand_plan, plan).limit, 9)

    def test_entries_that_are_not_used(self):
        self.assertEqual(expand_plan(great_plan(entries=19) + flat_plan(C)), C)

    def test_equal_calls_and_arguments(self):
        for plan in (P, Q, great_plan()):
            check_pure(self, expand_plan, plan)


class SeriesTest(unittest.TestCase):
    def test_examples(self):
        plan = (((".+", "-."), (-1, -1)),)
        self.assertEqual(
            repr([series_plan(plan), plan_size(series_plan(plan, plan, plan))]),
            "[((('.+', '-.'), (-1, -1)), (('.',), (0,))), 6]",
        )
        self.assertEqual(raised(NoPlans, series_plan).__class__, NoPlans)

    def check(self, plans):
        found = series_plan(*plans)
        self.assertTrue(is_plan(found))
        before, lasts = 0, ()
        for plan in plans:
            for at, (table, children) in enumerate(plan):
                moved = tuple(child if child == -1 else child + before for child in children)
                self.assertEqual(repr(found[before + at]), repr((table, moved)))
            before += len(plan)
            lasts += (before - 1,)
        self.assertEqual(repr(found[before:]), repr(((linear_table(len(plans)), lasts),)))
        self.assertEqual(plan_size(found), sum(map(plain_size, plans)))

    def test_entries_and_last_entry(self):
        chance = random.Random(3)
        for many in range(1, 10):
            for _ in range(10):
                self.check([drawn_plan(chance, chance.randint(1, 2), 4, 0.5) for _ in range(many)])
        self.check([P, Q, P])
        self.check([great_plan(entries=9), P, great_plan(U, 8)])

    def test_each_alternative_beats_those_of_later_plans(self):
        found = series_plan(flat_plan(C), flat_plan((".-", "+.")), flat_plan((".",)))
        self.assertEqual(expand_plan(found), (".+-+++", "-.++++", "+-.+++", "---.-+", "---+.+", "-----."))

    def test_too_many_plans(self):
        one = flat_plan((".",))
        for many in range(10, 25):
            self.assertEqual(raised(TooLarge, series_plan, *[one] * many).limit, 9)
        self.assertEqual(raised(TooLarge, series_plan, *[deep_plan(20)] * 10).limit, 9)
        self.check([one] * 9)

    def test_too_many_entries(self):
        self.check([deep_plan(19)])
        self.check([deep_plan(10), deep_plan(9)])
        for plans in ([deep_plan(20)], [deep_plan(10), deep_plan(10)], [deep_plan(3)] * 7, [great_plan()] * 9):
            self.assertEqual(raised(TooLarge, series_plan, *plans).limit, 20)

    def test_equal_calls_and_arguments(self):
        for plans in ([], [P], [P, Q], [P] * 10, [great_plan()]):
            check_pure(self, series_plan, *plans)


class AtOnceTest(unittest.TestCase):
    def test_great_plans(self):
        for plan in great_plans():
            address, at = (), len(plan) - 1
            while at >= 0:
                address, at = address + (0,), plan[at][1][0]
            start = time.perf_counter()
            self.assertTrue(is_plan(plan) and is_address(plan, address))
            self.assertLess(plan_score(plan, address), plan_size(plan))
            self.assertEqual(plan_duel(plan, address, address), ".")
            raised(TooLarge, expand_plan, plan)
            raised(TooLarge, series_plan, plan)
            self.assertLess(time.perf_counter() - start, 2)


if __name__ == "__main__":
    unittest.main()
