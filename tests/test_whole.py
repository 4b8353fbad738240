"""Points [1] and [2] over the whole program: the guarantees (a) to (g) for drawn tables, plans and benches together.

The guarantees are tested with the modules, too: (a) with the lotteries, (b), (d) and (f) in tests/test_guarantees.py,
(c) with the sequences, (e) with the kinds, and (g) with the benches.
"""

import fractions
import itertools
import math
import random
import unittest

from duelsets.benches import Bench, LoggedStrongBench, StrongBench
from duelsets.chains import chain_for, is_full_chain
from duelsets.components import parts, replace_alternatives, summary
from duelsets.coverings import find_witnesses, witnesses_hold
from duelsets.covers import uncovered_certificate, uncovered_holds
from duelsets.errors import NotStrong
from duelsets.kinds import each_member, is_member, member_at, member_index, members, share
from duelsets.lotteries import balances, is_lottery, lottery
from duelsets.plans import expand_plan, plan_duel, plan_size, series_plan
from duelsets.sequences import careful_counts, careful_winner, sequence_counts, sequence_for, sequence_winner
from duelsets.shells import Shell
from duelsets.tables import relabel_table, restrict_table
from duelsets.texts import parse_order, parse_table, set_text, table_text
from duelsets.tops import top_certificate, top_holds
from tests.bench_samples import C, KINDS, call_edit, drawn_edit, first_tables, result_of, state_of
from tests.plan_samples import drawn_plan, flat_plan, great_plans, plain_size
from tests.shapes import circle, drawn_table


def drawn_tables(seed, many):
    chance = random.Random(seed)
    return [drawn_table(chance, chance.randint(1, 9)) for _ in range(many)]


def drawn_benches(seed, many):
    """Benches with some edits that stand."""
    chance = random.Random(seed)
    found = []
    for bench_class in (Bench, LoggedStrongBench):
        for table in first_tables(chance, bench_class == LoggedStrongBench):
            bench = bench_class(table)
            for _ in range(many):
                result_of(call_edit, bench, drawn_edit(chance, bench.table(), 0.1))
            found.append(bench)
    return found


class GuaranteesTest(unittest.TestCase):
    def check_lottery(self, table):
        """(a)"""
        weights = lottery(table)
        positive = [weight for weight in weights if weight > 0]
        self.assertTrue(is_lottery(table, weights))
        self.assertTrue(all(weight % 2 == 1 for weight in positive))
        self.assertEqual(len(positive) % 2, 1)
        for weight, balance in zip(weights, balances(table, weights)):
            self.assertTrue(balance == 0 if weight > 0 else balance < 0)

    def check_contained(self, table):
        """(b)"""
        sets = {kind: set(members(table, kind)) for kind in KINDS}
        for small, great in (
            ("support", "covering"), ("covering", "uncovered"), ("uncovered", "top"), ("chain", "uncovered"),
            ("top", "all"),
        ):
            self.assertLessEqual(sets[small], sets[great], (table, small, great))

    def check_sequences(self, table):
        """(c)"""
        for one in range(len(table)):
            self.assertEqual(sequence_counts(table)[one] > 0, one in members(table, "top"))
            self.assertEqual(careful_counts(table)[one] > 0, one in members(table, "chain"))
        for one in members(table, "top"):
            self.assertEqual(sequence_winner(table, sequence_for(table, one)), one)
        for one in members(table, "chain"):
            chain = chain_for(table, one)
            others = tuple(other for other in range(len(table)) if other not in chain)
            self.assertEqual(careful_winner(table, others + chain), one)

    def check_certificates(self, table):
        """(f)"""
        for one in range(len(table)):
            self.assertTrue(top_holds(table, one, top_certificate(table, one)))
            self.assertTrue(uncovered_holds(table, one, uncovered_certificate(table, one)))
            self.assertEqual(top_certificate(table, one)[0] == "in", one in members(table, "top"))
            self.assertEqual(uncovered_certificate(table, one)[0] == "in", one in members(table, "uncovered"))
        for one in members(table, "chain"):
            self.assertTrue(is_full_chain(table, chain_for(table, one)))
        covering = members(table, "covering")
        self.assertTrue(witnesses_hold(table, covering, find_witnesses(table, covering)))

    def check_table(self, table):
        self.check_lottery(table)
        self.check_contained(table)
        self.check_sequences(table)
        self.check_certificates(table)

    def test_drawn_tables(self):
        for table in drawn_tables(20, 150):
            self.check_table(table)

    def test_the_tables_of_benches(self):
        for bench in drawn_benches(21, 8):
            for _, table in bench.walk():
                self.check_table(table)

    def test_nested_tables(self):
        chance = random.Random(22)
        for _ in range(200):
            plan = drawn_plan(chance, chance.randint(1, 4), 4, 0.5)
            if plain_size(plan) <= 9:
                self.check_table(expand_plan(plan))


class EditedTest(unittest.TestCase):
    """(d), with the edits of a bench."""

    def test_a_lost_duel_is_turned(self):
        for table in drawn_tables(23, 40):
            bench = Bench(table)
            for one, other in itertools.permutations(range(len(table)), 2):
                if table[one][other] == "-":
                    bench.turn(one, other)
                    for kind in KINDS:
                        if one in bench.best(kind, version=0):
                            self.assertIn(one, bench.best(kind), (table, kind, one, other))
                    bench.undo()

    def test_an_alternative_outside_is_removed(self):
        for table, kind in itertools.product(drawn_tables(24, 80), ("top", "covering", "support")):
            bench = Bench(table)
            bench.kind = kind
            for one in range(len(table)):
                if one not in bench.best(kind):
                    bench.remove(one)
                    first, second = bench.leaders()
                    self.assertEqual(second, tuple(other - (other > one) for other in first), (table, kind, one))
                    bench.undo()

    def test_one_that_loses_to_all_is_added(self):
        for table in drawn_tables(25, 40):
            if len(table) < 9:
                bench = Bench(table)
                bench.add(())
                for kind in KINDS[1:]:
                    self.assertEqual(bench.best(kind), bench.best(kind, version=0))
                self.assertEqual(lottery(bench.table()), lottery(table) + (0,))


class NestedTest(unittest.TestCase):
    """(e)"""

    def plans(self):
        chance = random.Random(26)
        found = []
        while len(found) < 80:
            plan = drawn_plan(chance, chance.randint(2, 5), 4, 0.4)
            if 2 <= plain_size(plan) <= 9:
                found.append(plan)
        return found

    def test_sets_and_shares(self):
        for plan in self.plans():
            table = expand_plan(plan)
            addresses = list(each_member(plan, "all"))
            self.assertEqual(len(addresses), plan_size(plan))
            weights = lottery(table)
            for one, address in enumerate(addresses):
                expected = fractions.Fraction(weights[one], sum(weights))
                self.assertEqual(fractions.Fraction(*share(plan, address)), expected)
                for kind in KINDS:
                    self.assertIs(is_member(plan, kind, address), one in members(table, kind), (plan, kind, address))
                for other, second in enumerate(addresses):
                    self.assertEqual(plan_duel(plan, address, second), table[one][other])

    def test_a_table_as_a_plan_of_its_parts(self):
        for table in drawn_tables(27, 60):
            found = parts(table)
            tables = tuple(restrict_table(table, part) for part in found)
            plan = tuple((each, (-1,) * len(each)) for each in tables) + ((summary(table), tuple(range(len(found)))),)
            nested = expand_plan(plan)
            self.assertEqual(nested, replace_alternatives(summary(table), tables))
            self.assertEqual(nested, relabel_table(table, tuple(itertools.chain(*found))))
            for kind in KINDS:
                expected = sorted(found[step].index(one) + 10 * step for step in range(len(found))
                                  for one in found[step] if one in members(table, kind))
                self.assertEqual([10 * step + one for step, one in each_member(plan, kind)], expected)

    def test_a_series(self):
        for plan in self.plans():
            both = series_plan(plan, flat_plan(C))
            for kind in KINDS[1:]:
                self.assertEqual(
                    list(each_member(both, kind)), [(0, *address) for address in each_member(plan, kind)]
                )

    def test_more_than_a_million_million_alternatives(self):
        for plan in great_plans():
            for kind in KINDS:
                address = member_at(plan, kind, 0)
                self.assertEqual(member_index(plan, kind, address), 0)
                self.assertEqual(share(plan, address)[0] > 0, is_member(plan, "support", address))


class BenchesTest(unittest.TestCase):
    """(g)"""

    def test_the_current_table_alone(self):
        for bench in drawn_benches(28, 10):
            other = Bench(bench.table())
            self.assertEqual(other.table(), bench.table())
            for kind in KINDS:
                self.assertEqual(other.best(kind), bench.best(kind))

    def test_undoing_edits_restores(self):
        for bench in drawn_benches(29, 20):
            tables = [table for _, table in bench.walk()]
            for version in reversed(range(len(tables))):
                self.assertEqual([bench.version, bench.table()], [version, tables[version]])
                self.assertEqual(bench.leaders(), tuple(members(table, "support") for table in tables[:version + 1]))
                if version > 0:
                    bench.undo()

    def test_there_and_back_by_texts(self):
        for bench in drawn_benches(30, 10):
            text = table_text(bench.table())
            self.assertTrue(type(bench).read(text) == bench)
            self.assertEqual(parse_table(text), bench.table())
            self.assertEqual(Shell(bench).execute("table"), text.replace("\n", "/"))
            order = sequence_for(bench.table(), bench.best("top")[-1])
            self.assertEqual(parse_order(bench.table(), set_text(order)), order)
            self.assertEqual(Shell(bench).execute("sequence " + set_text(order)), str(bench.best("top")[-1]))

    def test_the_same_edits_on_a_bench_and_on_a_strong_one(self):
        chance = random.Random(31)
        for _ in range(40):
            strong, free = StrongBench(circle(5)), Bench(circle(5))
            for _ in range(20):
                edit = drawn_edit(chance, strong.table(), 0.1)
                found, expected = result_of(call_edit, strong, edit), result_of(call_edit, free, edit)
                if found[0] == "raised" and found[1][0] == NotStrong.__name__:
                    self.assertEqual(expected[0], "returned")
                    free.undo()
                else:
                    self.assertEqual(repr(found), repr(expected))
                self.assertEqual(repr(state_of(strong)), repr(state_of(free)))


class CountsTest(unittest.TestCase):
    def test_counts_are_renumbered_with_the_table(self):
        chance = random.Random(32)
        for table in drawn_tables(33, 40):
            order = tuple(chance.sample(range(len(table)), len(table)))
            other = relabel_table(table, order)
            for function in (sequence_counts, careful_counts, lottery):
                self.assertEqual(function(other), tuple(function(table)[one] for one in order))
            self.assertEqual(sum(sequence_counts(other)), math.factorial(len(table)))


if __name__ == "__main__":
    unittest.main()
