"""Point [2], (b), (d) and (f), for the sets of sections 2 to 5, and what is asked of all functions of tables.

(a) is tested with the lotteries, and (e) with the kinds.
"""

import itertools
import time
import unittest

from duelsets.chains import chain_for, chain_tops, each_full_chain, full_chains, is_chain, is_full_chain
from duelsets.components import all_components, is_component, parts, replace_alternatives, summary
from duelsets.coverings import covering_sets, find_witnesses, is_covering, smallest_covering, witnesses_hold
from duelsets.covers import coverers, uncovered_certificate, uncovered_holds, uncovered_set
from duelsets.kinds import member_sets, members, select
from duelsets.lotteries import balances, is_lottery, lottery, support
from duelsets.tops import dominant_sets, layers, top_certificate, top_holds, top_set
from tests.definitions import covering_family, covers, dominant_family, full_chain_family, smallest_of
from tests.samples import U, all_tables, beats, table_of_bits
from tests.shapes import circle, every_shape, linear_table, shaped_tables, turned, without

SETS = (top_set, uncovered_set, smallest_covering, chain_tops, support)


def uncovered_family(table):
    size = range(len(table))
    return {one for one in size if not any(covers(table, other, one) for other in size)}


class ContainedTest(unittest.TestCase):
    """(b)"""

    def check(self, table):
        top, uncovered, covering, tops, positive = [set(function(table)) for function in SETS]
        self.assertLessEqual(positive, covering, table)
        self.assertLessEqual(covering, uncovered, table)
        self.assertLessEqual(uncovered, top, table)
        self.assertLessEqual(tops, uncovered, table)
        self.assertTrue(positive and tops, table)

    def test_many_tables(self):
        for table in every_shape():
            self.check(table)

    def test_the_tables_tell_the_sets_apart(self):
        for function, other in itertools.combinations(SETS, 2):
            self.assertTrue(any(function(table) != other(table) for table in every_shape()))

    def test_all_tables_of_five(self):
        for table in all_tables(5):
            self.check(table)


class TurnedTest(unittest.TestCase):
    """(d), first sentence."""

    def check(self, table):
        sets = [(function, function(table)) for function in SETS]
        for one, other in itertools.permutations(range(len(table)), 2):
            if beats(table, other, one):
                better = turned(table, one, other)
                for function, members in sets:
                    if one in members:
                        self.assertIn(one, function(better), (function.__name__, table, one, other))

    def test_an_alternative_that_wins_one_more_duel_stays(self):
        for table in every_shape()[::2]:
            self.check(table)


class RemovedTest(unittest.TestCase):
    """(d), second sentence."""

    def check(self, function, table):
        members = function(table)
        for one in range(len(table)):
            if one not in members:
                expected = tuple(other - (other > one) for other in members)
                self.assertEqual(function(without(table, one)), expected, (function.__name__, table, one))

    def test_an_alternative_outside_is_removed(self):
        for table in [*every_shape(), *all_tables(5)[::3]]:
            self.check(top_set, table)
            self.check(smallest_covering, table)
            self.check(support, table)


class AcceptedTest(unittest.TestCase):
    """(f): what is accepted is correct, whoever made it."""

    def test_top(self):
        for table in all_tables(3) + all_tables(4)[::7]:
            size, top = len(table), smallest_of(dominant_family(table))
            for one in range(size):
                for steps in itertools.product([None, *range(size)], repeat=size):
                    if top_holds(table, one, ("in", steps)):
                        self.assertIn(one, top)
                for members in itertools.chain(*(itertools.combinations(range(size), k) for k in range(size + 1))):
                    if top_holds(table, one, ("out", members)):
                        self.assertNotIn(one, top)

    def test_uncovered(self):
        for table in all_tables(3) + all_tables(4)[::7]:
            size, uncovered = len(table), uncovered_family(table)
            for one in range(size):
                for middles in itertools.product([None, *range(size)], repeat=size):
                    if uncovered_holds(table, one, ("in", middles)):
                        self.assertIn(one, uncovered)
                for other in range(size):
                    if uncovered_holds(table, one, ("out", other)):
                        self.assertNotIn(one, uncovered)

    def test_witnesses(self):
        for table in all_tables(3) + all_tables(4)[::7]:
            size, family = len(table), covering_family(table)
            for members in itertools.chain(*(itertools.combinations(range(size), k) for k in range(1, size + 1))):
                for value in itertools.product([None, *range(size)], repeat=size):
                    if witnesses_hold(table, members, value):
                        self.assertIn(members, family)

    def test_a_certificate_for_another_alternative_or_table(self):
        for table, other in itertools.product(shaped_tables(5)[:12], repeat=2):
            top, uncovered = smallest_of(dominant_family(other)), uncovered_family(other)
            for one, two in itertools.product(range(5), repeat=2):
                certificate = top_certificate(table, one)
                if top_holds(other, two, certificate):
                    self.assertEqual(certificate[0] == "in", two in top)
                certificate = uncovered_certificate(table, one)
                if uncovered_holds(other, two, certificate):
                    self.assertEqual(certificate[0] == "in", two in uncovered)


class AtOnceTest(unittest.TestCase):
    """A table of nine alternatives is answered at once. The limit is wide: what goes through all orders breaks it."""

    def calls(self, table):
        everyone = tuple(range(9))
        for function in (layers, dominant_sets, full_chains, covering_sets, *SETS):
            yield function, (table,)
        for function in (all_components, parts, summary, lottery, select):
            yield function, (table,)
        for function in (is_covering, is_chain, is_full_chain, is_component, is_lottery):
            yield function, (table, everyone)
        for kind in ("all", "top", "uncovered", "chain", "covering", "support"):
            yield members, (table, kind)
            yield member_sets, (table, kind, kind)
        yield balances, (table, (10 ** 29,) * 9)
        yield replace_alternatives, (table, ((".",),) * 9)
        yield find_witnesses, (table, everyone)
        yield witnesses_hold, (table, everyone, (None,) * 9)
        yield chain_for, (table, full_chain_family(table)[-1][0])
        for one in everyone:
            yield coverers, (table, one)
            yield top_holds, (table, one, top_certificate(table, one))
            yield uncovered_holds, (table, one, uncovered_certificate(table, one))

    def test_nine_alternatives(self):
        for table in (linear_table(9), circle(9), *shaped_tables(9)):
            for function, arguments in self.calls(table):
                start = time.perf_counter()
                function(*arguments)
                self.assertLess(time.perf_counter() - start, 2, function.__name__)

    def test_values_of_a_thousand_items(self):
        for value in ((0,) * 1000, tuple(range(1000)), (0, 1) * 500, ((0,) * 999,)):
            start = time.perf_counter()
            for table in (U, linear_table(9)):
                for part in (value, list(value), ("in", value), ("out", value)):
                    results = [is_covering(table, part), is_chain(table, part), is_full_chain(table, part)]
                    results += [top_holds(table, 0, part), uncovered_holds(table, 0, part)]
                    results += [witnesses_hold(table, (0,), part), is_component(table, part), is_lottery(table, part)]
                    self.assertEqual(results, [False] * 8)
            self.assertLess(time.perf_counter() - start, 2)


class BeyondTheLimitTest(unittest.TestCase):
    """The interface: callers may go somewhat beyond a limit, and no error is raised unless a point says so."""

    def test_ten_alternatives(self):
        table = table_of_bits(10, 0x123456789ABC)
        self.assertEqual(dominant_sets(table), dominant_family(table))
        self.assertEqual(set(uncovered_set(table)), uncovered_family(table))
        self.assertEqual(smallest_covering(table), smallest_of(covering_family(table)))
        self.assertEqual(tuple(each_full_chain(table)), full_chain_family(table))
        self.assertTrue(is_lottery(table, lottery(table)))
        for one in range(10):
            self.assertIs(top_holds(table, one, top_certificate(table, one)), True)
            self.assertIs(uncovered_holds(table, one, uncovered_certificate(table, one)), True)


if __name__ == "__main__":
    unittest.main()
