"""Points [3], [13] and [14], section 8: best alternatives of tables and plans. Point [2] (e)."""

import fractions
import itertools
import math
import time
import unittest

from duelsets.chains import chain_tops
from duelsets.coverings import smallest_covering
from duelsets.covers import uncovered_set
from duelsets.errors import NoAddress, NoFlag, NoIndex, NoKind, NotOfKind
from duelsets.kinds import (
    count_members, each_member, is_member, member_at, member_index, member_sets, members, select, share,
)
from duelsets.lotteries import lottery, support
from duelsets.tops import top_set
from tests.plan_samples import (
    C, P, Q, deep_plan, flat_plan, great_plan, great_plans, middle_plans, odd_addresses, plain_addresses,
    plain_expanded, plain_size, small_plans,
)
from tests.samples import T, U, check_pure, not_kinds, odd_values, raised
from tests.shapes import every_shape, linear_table, shaped_tables

SETS = {
    "all": lambda table: tuple(range(len(table))),
    "top": top_set,
    "uncovered": uncovered_set,
    "chain": chain_tops,
    "covering": smallest_covering,
    "support": support,
}


def not_indexes(count):
    return [*[value for value in odd_values() if type(value) is not int], -1, -count, count, count + 1, 10 ** 29, (0,)]


def listed_members(plan, kind):
    """The addresses of a kind by point [14], judged one by one."""
    return [address for address in plain_addresses(plan) if is_listed(plan, kind, address, len(plan) - 1)]


def is_listed(plan, kind, address, at):
    table, children = plan[at]
    if address[0] not in SETS[kind](table):
        return False
    if children[address[0]] == -1:
        return True
    if kind == "top" and len(top_set(table)) > 1:
        return True
    return is_listed(plan, kind, address[1:], children[address[0]])


class MembersTest(unittest.TestCase):
    def test_examples(self):
        self.assertEqual(repr([members(U, "top"), members(U, "support")]), "[(0, 1, 2, 3), (0, 1, 3)]")
        self.assertEqual(
            repr([member_sets(U, "support", "top"), member_sets(U)]), "[((0, 1, 3), (0, 1, 2, 3)), ()]"
        )

    def test_the_sets_of_the_functions(self):
        for table in every_shape():
            for kind, function in SETS.items():
                self.assertEqual(repr(members(table, kind)), repr(function(table)), (table, kind))

    def test_member_sets_in_the_order_of_the_arguments(self):
        for table in (T, U, *shaped_tables(7)[:4]):
            for many in range(4):
                for kinds in itertools.product(SETS, repeat=many):
                    expected = tuple(members(table, kind) for kind in kinds)
                    self.assertEqual(repr(member_sets(table, *kinds)), repr(expected))

    def test_no_kind(self):
        for value in not_kinds():
            self.assertIs(raised(NoKind, members, U, value).value, value)
            for kinds in ((value,), (value, "top"), ("top", value), ("all", value, [0]), (value, None)):
                self.assertIs(raised(NoKind, member_sets, U, *kinds).value, value)

    def test_equal_calls_and_arguments(self):
        for value in [*SETS, *not_kinds()]:
            check_pure(self, members, U, value)
            check_pure(self, member_sets, U, value, "top")


class SelectTest(unittest.TestCase):
    def test_examples(self):
        self.assertEqual(repr([select(U, top=True, support=False), select(U)]), "[(2,), (0, 1, 2, 3)]")
        self.assertEqual(raised(NoKind, lambda: select(U, top=1, best=True)).value, "best")

    def test_all_wanted_kinds(self):
        for table in (T, U, *shaped_tables(8)[:5]):
            sets = {kind: members(table, kind) for kind in SETS}
            for values in itertools.product([None, True, False], repeat=6):
                wanted = {kind: value for kind, value in zip(SETS, values) if value is not None}
                expected = tuple(
                    one for one in range(len(table))
                    if all((one in sets[kind]) == value for kind, value in wanted.items())
                )
                self.assertEqual(repr(select(table, **wanted)), repr(expected), wanted)

    def test_no_kind_with_the_first_name(self):
        for name in ("best", "Top", "supports", "one", "kind", "wanted", "value"):
            for value in (True, False, None, 1):
                self.assertEqual(raised(NoKind, lambda: select(U, **{name: value})).value, name)
                self.assertEqual(raised(NoKind, lambda: select(U, top=3, **{name: value})).value, name)
                self.assertEqual(raised(NoKind, lambda: select(U, **{name: value}, worst=True)).value, name)

    def test_a_name_that_is_no_word(self):
        for name in ("", "top ", "a b", ".", "none\n"):
            self.assertEqual(raised(NoKind, lambda: select(U, **{name: True})).value, name)

    def test_no_flag_with_the_first_value(self):
        for value in [value for value in odd_values() if type(value) is not bool] + [0, 1, (), (True,)]:
            self.assertIs(raised(NoFlag, lambda: select(U, top=value)).value, value)
            self.assertIs(raised(NoFlag, lambda: select(U, top=True, chain=value)).value, value)
            self.assertIs(raised(NoFlag, lambda: select(U, support=value, top=[1])).value, value)

    def test_in_the_order_of_the_call(self):
        first, second = [1], [2]
        self.assertIs(raised(NoFlag, lambda: select(U, support=first, all=second)).value, first)
        self.assertIs(raised(NoFlag, lambda: select(U, all=second, support=first)).value, second)
        self.assertEqual(raised(NoKind, lambda: select(U, zz=True, aa=True)).value, "zz")

    def test_equal_calls_and_arguments(self):
        wanted = {"top": True, "support": False}
        for table in (T, U, *shaped_tables(9)[:5]):
            self.assertEqual(select(table, **wanted), select(table, **wanted))
            self.assertEqual(select(table, **wanted), select(table, **dict(reversed(wanted.items()))))
        self.assertEqual(wanted, {"top": True, "support": False})


class PlansTest(unittest.TestCase):
    """count_members, is_member, member_at, member_index and each_member against a list."""

    def check(self, plan, kind, expected):
        self.assertEqual(repr(count_members(plan, kind)), str(len(expected)))
        self.assertEqual(repr(list(each_member(plan, kind))), repr(expected), (plan, kind))
        for index, address in enumerate(expected):
            self.assertEqual(repr(member_at(plan, kind, index)), repr(address))
            self.assertEqual(repr(member_index(plan, kind, address)), str(index))
        for address in plain_addresses(plan):
            self.assertIs(is_member(plan, kind, address), address in expected)
            if address not in expected:
                self.assertIs(raised(NotOfKind, member_index, plan, kind, address).value, address)

    def test_examples(self):
        self.assertEqual([count_members(P, "all"), count_members(P, "support")], [7, 7])
        self.assertEqual(repr([is_member(Q, "top", (0, 0)), is_member(Q, "top", (0, 1))]), "[True, False]")
        self.assertEqual(repr([member_at(P, "all", 3), member_at(P, "all", 6)]), "[(1,), (2, 2)]")
        self.assertEqual(repr(member_index(P, "all", (1,))), "3")
        self.assertEqual(
            repr([list(each_member(Q, "all")), list(each_member(Q, "top"))]),
            "[[(0, 0), (0, 1), (1, 0), (1, 1)], [(0, 0)]]",
        )

    def test_the_set_of_the_expanded_table(self):
        for plan in small_plans():
            table, addresses = plain_expanded(plan), plain_addresses(plan)
            for kind, function in SETS.items():
                self.check(plan, kind, [addresses[one] for one in function(table)])

    def test_the_addresses_of_the_kind(self):
        for plan in (*small_plans()[::3], *middle_plans()):
            for kind in SETS:
                self.check(plan, kind, listed_members(plan, kind))

    def test_the_plans_tell_the_kinds_apart(self):
        for kind, other in itertools.combinations(SETS, 2):
            plans = [plan for plan in middle_plans() if count_members(plan, kind) != count_members(plan, other)]
            self.assertTrue(plans, (kind, other))

    def test_top_sets_of_one_and_of_more(self):
        below = flat_plan(linear_table(2)) + flat_plan(C)
        for table, children, expected in (
            (linear_table(2), (0, 1), [(0, 0)]),
            (linear_table(2), (1, 0), [(0, 0), (0, 1), (0, 2)]),
            (C, (0, 0, -1), [(0, 0), (0, 1), (1, 0), (1, 1), (2,)]),
            ((".",), (0,), [(0, 0)]),
            ((".",), (1,), [(0, 0), (0, 1), (0, 2)]),
            (linear_table(2), (-1, 1), [(0,)]),
        ):
            self.check(below + ((table, children),), "top", expected)
        # Below a step of several all is free, also where a table further below has a top set of one.
        plan = flat_plan(linear_table(2)) + (((".",), (0,)), (C, (1, 1, -1)), (linear_table(2), (2, 0)))
        self.check(plan, "top", [(0, 0, 0, 0), (0, 0, 0, 1), (0, 1, 0, 0), (0, 1, 0, 1), (0, 2)])

    def test_equal_calls_and_arguments(self):
        for plan in (P, Q, middle_plans()[0], great_plan()):
            for kind in (*SETS, None, "best", ["top"]):
                check_pure(self, count_members, plan, kind)
                for value in [(0, 0), (1,), *odd_addresses(plan)[::4]]:
                    check_pure(self, is_member, plan, kind, value)
                    check_pure(self, member_index, plan, kind, value)
                for value in (0, 1, 6, *not_indexes(7)):
                    check_pure(self, member_at, plan, kind, value)


class ErrorsTest(unittest.TestCase):
    def test_no_kind_first(self):
        for value in not_kinds():
            self.assertIs(raised(NoKind, count_members, P, value).value, value)
            for address in ((0, 0), (0,), None, [0]):
                self.assertIs(raised(NoKind, is_member, P, value, address).value, value)
                self.assertIs(raised(NoKind, member_index, P, value, address).value, value)
            for index in (0, 7, None, [0]):
                self.assertIs(raised(NoKind, member_at, P, value, index).value, value)

    def test_no_address(self):
        for plan in (P, Q, *small_plans()[::9], great_plan()):
            for kind in SETS:
                for value in odd_addresses(plan):
                    self.assertIs(raised(NoAddress, is_member, plan, kind, value).value, value)
                    self.assertIs(raised(NoAddress, member_index, plan, kind, value).value, value)

    def test_not_of_kind(self):
        for kind in ("top", "uncovered", "chain", "covering", "support"):
            address = (0, 1)
            self.assertIs(raised(NotOfKind, member_index, Q, kind, address).value, address)
            self.assertIs(raised(NoAddress, member_index, Q, kind, (1,)).__class__, NoAddress)

    def test_no_index(self):
        for plan in (P, Q, deep_plan(20), *middle_plans()[:4], great_plan()):
            for kind in SETS:
                for value in not_indexes(count_members(plan, kind)):
                    if type(value) is not int or not 0 <= value < count_members(plan, kind):
                        self.assertIs(raised(NoIndex, member_at, plan, kind, value).value, value)

    def test_bools_are_not_indexes(self):
        for value in (True, False):
            self.assertIs(raised(NoIndex, member_at, P, "all", value).value, value)
            self.assertIs(raised(NoIndex, member_at, deep_plan(1), "top", value).value, value)


class EachMemberTest(unittest.TestCase):
    def test_a_generator(self):
        found = each_member(P, "all")
        self.assertIs(iter(found), found)
        self.assertEqual([next(found), next(found)], [(0, 0), (0, 1)])
        self.assertEqual(list(found), plain_addresses(P)[2:])
        self.assertEqual(list(found), [])

    def test_each_time_from_the_beginning(self):
        for plan in (P, Q, *middle_plans()[:5]):
            for kind in SETS:
                expected = listed_members(plan, kind)
                self.assertEqual([list(each_member(plan, kind)) for _ in range(2)], [expected, expected])

    def test_within_another_iteration_and_two_at_once(self):
        pairs = [(one, other) for one in each_member(P, "all") for other in each_member(Q, "all")]
        self.assertEqual(pairs, list(itertools.product(plain_addresses(P), plain_addresses(Q))))
        pairs = list(zip(each_member(P, "all"), each_member(P, "all")))
        self.assertEqual(pairs, [(address, address) for address in plain_addresses(P)])

    def test_the_first_ones_of_great_plans(self):
        for plan in great_plans():
            for kind in SETS:
                start = time.perf_counter()
                found = list(itertools.islice(each_member(plan, kind), 200))
                self.assertLess(time.perf_counter() - start, 2)
                self.assertEqual(len(found), min(200, count_members(plan, kind)))
                self.assertEqual(found, sorted(set(found)))
                for index in (0, len(found) // 2, len(found) - 1):
                    self.assertEqual(found[index], member_at(plan, kind, index))


class GreatPlansTest(unittest.TestCase):
    def test_counts(self):
        self.assertEqual({kind: count_members(great_plan(), kind) for kind in SETS}, dict.fromkeys(SETS, 9 ** 20))
        linear = great_plan(linear_table(9))
        self.assertEqual(
            [count_members(linear, kind) for kind in SETS], [9 ** 20, 1, 1, 1, 1, 1]
        )
        self.assertEqual(
            [count_members(great_plan(U), kind) for kind in SETS], [4 ** 20, 4 ** 20, *[3 ** 20] * 4]
        )

    def test_top_of_one_step_after_another(self):
        # The top sets are single ones at nineteen entries, and all nine at the first.
        plan = great_plan(entries=1) + tuple((linear_table(9), (at,) * 9) for at in range(19))
        self.assertEqual(count_members(plan, "top"), 9)
        self.assertEqual(member_at(plan, "top", 4), (0,) * 19 + (4,))
        # One entry with a greater top set in between makes all below it free.
        plan = great_plan(linear_table(9), 10) + ((C, (9,) * 3),) + tuple(((".",), (at,)) for at in range(10, 19))
        self.assertEqual(count_members(plan, "top"), 3 * 9 ** 10)

    def test_there_and_back(self):
        for plan in great_plans():
            for kind in SETS:
                count = count_members(plan, kind)
                indexes = sorted({index % count for index in (0, 1, count // 3, count // 2, count - 2, count - 1)})
                addresses = [member_at(plan, kind, index) for index in indexes]
                self.assertEqual(addresses, sorted(set(addresses)))
                for index, address in zip(indexes, addresses):
                    self.assertEqual(member_index(plan, kind, address), index)
                    self.assertIs(is_member(plan, kind, address), True)
                    self.assertTrue(is_listed(plan, kind, address, len(plan) - 1))

    def test_at_once(self):
        for plan in great_plans():
            for kind in SETS:
                start = time.perf_counter()
                address = member_at(plan, kind, count_members(plan, kind) - 1)
                member_index(plan, kind, address)
                is_member(plan, kind, address)
                share(plan, address)
                self.assertLess(time.perf_counter() - start, 2)


class ShareTest(unittest.TestCase):
    def test_example(self):
        self.assertEqual(repr([share(P, (0, 1)), share(P, (1,))]), "[(1, 9), (1, 3)]")

    def check_fraction(self, value):
        self.assertIs(type(value), tuple)
        self.assertEqual([type(part) for part in value], [int, int])
        self.assertGreater(value[1], 0)
        self.assertEqual(math.gcd(*value), 1)
        return fractions.Fraction(*value)

    def test_weight_in_the_expanded_table(self):
        for plan in small_plans():
            weights = lottery(plain_expanded(plan))
            for address, weight in zip(plain_addresses(plan), weights):
                expected = fractions.Fraction(weight, sum(weights))
                self.assertEqual(self.check_fraction(share(plan, address)), expected, (plan, address))

    def test_product_of_the_steps(self):
        for plan in (*small_plans()[::3], *middle_plans()):
            for address in plain_addresses(plan):
                expected, at = fractions.Fraction(1), len(plan) - 1
                for step in address:
                    weights = lottery(plan[at][0])
                    expected *= fractions.Fraction(weights[step], sum(weights))
                    at = plan[at][1][step]
                self.assertEqual(self.check_fraction(share(plan, address)), expected)

    def test_all_shares_add_up_to_1(self):
        for plan in (*small_plans(), *middle_plans()):
            total = sum(fractions.Fraction(*share(plan, address)) for address in plain_addresses(plan))
            self.assertEqual(total, 1)

    def test_positive_exactly_for_the_support(self):
        for plan in (*small_plans(), *middle_plans()):
            for address in plain_addresses(plan):
                if is_member(plan, "support", address):
                    self.assertGreater(share(plan, address)[0], 0)
                else:
                    self.assertEqual(repr(share(plan, address)), "(0, 1)")

    def test_great_plans(self):
        self.assertEqual(share(great_plan(), (3,) * 20), (1, 9 ** 20))
        self.assertEqual(share(great_plan(linear_table(9)), (0,) * 20), (1, 1))
        self.assertEqual(share(great_plan(linear_table(9)), (0,) * 19 + (1,)), (0, 1))

    def test_no_address(self):
        for plan in (P, Q, *small_plans()[::9], great_plan()):
            for value in odd_addresses(plan):
                self.assertIs(raised(NoAddress, share, plan, value).value, value)

    def test_equal_calls_and_arguments(self):
        for value in [(0, 1), (1,), *odd_addresses(P)]:
            check_pure(self, share, P, value)


class BeyondTheLimitTest(unittest.TestCase):
    def test_more_entries_than_a_plan_has(self):
        plan = deep_plan(23)
        for kind in SETS:
            self.assertEqual(list(each_member(plan, kind)), [(0,) * 23])
        self.assertEqual(plain_size(plan), 1)


if __name__ == "__main__":
    unittest.main()
