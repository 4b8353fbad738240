"""Points [3] and [15], section 9: run, on_step and Busy, for all four classes of benches."""

import itertools
import random
import unittest

from duelsets.benches import Bench, LoggedBench, LoggedStrongBench, StrongBench
from duelsets.errors import (
    BadEdit, BadEdits, Busy, NoAlternative, NoKind, NothingToUndo, NoVersion, Rejected, TooManyEdits,
)
from duelsets.kinds import members
from duelsets.shells import Shell
from tests.bench_samples import (
    C, FOUR_EDITS, KINDS, PlainBench, call_edit, drawn_batch, first_tables, plain_edited, state_of, wrong_edits,
)
from tests.samples import T, not_kinds, odd_values, raised
from tests.shapes import circle

CLASSES = (Bench, StrongBench, LoggedBench, LoggedStrongBench)


def tables_after(table, edits):
    """The tables from the first one on, one for each edit that is done."""
    tables = [table]
    for edit in edits:
        tables.append(plain_edited(tables[-1], edit))
    return tables


def not_batches():
    """Values that are not lists or tuples of at most twenty items, made anew for each call."""
    values = [value for value in odd_values() if not isinstance(value, (list, tuple)) or len(value) > 20]
    right = ("add", ())
    return [*values, 0, 1, "turn", {"turn": (0, 1)}, [right] * 21, (right,) * 21, [None] * 21, (0,) * 1000]


class Stop(Exception):
    """An exception of on_step that is no error of the package."""


class Halt(BaseException):
    """An exception of on_step that is not even an Exception."""


class ResultTest(unittest.TestCase):
    def test_example(self):
        bench = Bench((".+", "-."))
        self.assertEqual(raised(Rejected, bench.run, [("add", ()), ("turn", 0, 0)]).index, 1)
        self.assertEqual([bench.version, bench.table()], [0, (".+", "-.")])

    def test_lists_and_tuples_of_up_to_twenty_edits(self):
        for bench_class, many in itertools.product(CLASSES, range(21)):
            edits = [("add", (0,)) if at % 2 == 0 else ("remove", 3) for at in range(many)]
            for batch in (list(edits), tuple(edits)):
                bench = bench_class(C)
                self.assertEqual(repr(bench.run(batch)), str(many))
                self.assertEqual(repr(bench.edits()), repr(tuple(edits)))
                self.assertEqual(bench.table(), tables_after(C, edits)[-1])
                self.assertEqual(list(batch), edits)

    def test_as_the_calls_one_by_one(self):
        chance = random.Random(9)
        for table in first_tables(chance, False):
            for _ in range(10):
                edits = drawn_batch(chance, table, 0, 20)
                one, other = Bench(table), Bench(table)
                self.assertEqual(one.run(edits), len(edits))
                for edit in edits:
                    call_edit(other, edit)
                self.assertEqual(repr(state_of(one)), repr(state_of(other)))

    def test_each_edit_can_be_undone_by_itself(self):
        for bench_class in CLASSES:
            bench = bench_class(C)
            bench.run(FOUR_EDITS)
            tables = tables_after(C, FOUR_EDITS)
            for left in reversed(range(len(FOUR_EDITS))):
                self.assertEqual(bench.undo(), left)
                self.assertEqual([bench.table(), bench.edits()], [tables[left], FOUR_EDITS[:left]])
            raised(NothingToUndo, bench.undo)

    def test_an_empty_run(self):
        for bench_class in CLASSES:
            for batch in ([], ()):
                bench = bench_class(C)
                bench.add((0,))
                calls = []
                self.assertEqual(repr(bench.run(batch, on_step=calls.append)), "1")
                self.assertEqual(repr(bench.run(batch)), "1")
                self.assertEqual([calls, bench.version], [[], 1])

    def test_an_empty_run_of_a_full_bench(self):
        bench = Bench(C)
        for _ in range(3):
            bench.run([("turn", 0, 1)] * 20)
        self.assertEqual([bench.run([]), bench.version], [60, 60])

    def test_on_step_is_passed_by_keyword(self):
        with self.assertRaises(TypeError):
            Bench(C).run([], None)
        self.assertEqual(Bench(C).run(FOUR_EDITS, on_step=None), 4)


class ErrorsTest(unittest.TestCase):
    def test_bad_edits(self):
        for bench_class in CLASSES:
            bench = bench_class(C)
            bench.add((0,))
            before = state_of(bench)
            for value in not_batches():
                calls = []
                raised(BadEdits, lambda: bench.run(value, on_step=calls.append))
                raised(BadEdits, bench.run, value)
                self.assertEqual([state_of(bench), calls], [before, []])

    def test_bad_edit_with_the_first_wrong_index(self):
        wrong = [*odd_values(), 0, (), ("turn",), ("turn", 0), ("add",), ("undo",), ["turn", 0, 1], ("add", (), ())]
        for bench_class in CLASSES:
            bench = bench_class(C)
            before = state_of(bench)
            for value in wrong:
                for at in range(4):
                    # The edits before it are not even tried: the first one would be rejected.
                    edits = [("turn", 0, 0)] * at + [value, ("add", ()), value]
                    for batch in (edits, tuple(edits)):
                        calls = []
                        found = raised(BadEdit, lambda: bench.run(batch, on_step=calls.append))
                        self.assertEqual(repr(found.index), str(at))
                        self.assertEqual([state_of(bench), calls], [before, []])

    def test_a_wrong_item_at_the_end_of_a_long_batch(self):
        self.assertEqual(raised(BadEdit, Bench(C).run, [("add", ())] * 19 + [None]).index, 19)
        raised(BadEdits, Bench(C).run, [None] * 21)

    def test_rejected_with_the_index_of_the_edit(self):
        for bench_class in CLASSES:
            for at in range(len(FOUR_EDITS) + 1):
                table = tables_after(C, FOUR_EDITS)[at]
                for edit in wrong_edits(table):
                    bench = bench_class(C)
                    before = state_of(bench)
                    calls = []
                    batch = [*FOUR_EDITS[:at], edit, *FOUR_EDITS[at:]]
                    error = raised(Rejected, lambda: bench.run(batch, on_step=calls.append))
                    self.assertEqual(repr(error.index), str(at))
                    self.assertEqual(repr(state_of(bench)), repr(before))
                    self.assertEqual(len(calls), at)

    def test_after_an_error_the_bench_is_free(self):
        for bench_class in CLASSES:
            bench = bench_class(C)
            raised(Rejected, bench.run, [("add", (0,)), ("remove", 7)])
            raised(BadEdit, bench.run, [0])
            raised(BadEdits, bench.run, 0)
            self.assertEqual([bench.add((0,)), bench.undo(), bench.run(FOUR_EDITS)], [1, 0, 4])

    def test_earlier_edits_stay(self):
        bench = Bench(C)
        bench.turn(0, 1)
        bench.run([("add", ()), ("add", (3,))])
        before = state_of(bench)
        self.assertEqual(raised(Rejected, bench.run, [("remove", 0), ("remove", 0), ("turn", 9, 0)]).index, 2)
        self.assertEqual(repr(state_of(bench)), repr(before))

    def test_too_many_edits(self):
        for bench_class in CLASSES:
            bench = bench_class(C)
            pair = [("add", (0,)), ("remove", 3)]
            for _ in range(5):
                bench.run(pair * 5)
            self.assertEqual([bench.version, bench.run(pair * 4)], [50, 58])
            before = state_of(bench)
            self.assertEqual(raised(Rejected, bench.run, pair * 2).index, 2)
            self.assertEqual(raised(Rejected, bench.run, [*pair, ("turn", 0, 0)]).index, 2)
            self.assertEqual(state_of(bench), before)
            self.assertEqual(bench.run(pair), 60)
            self.assertEqual(raised(Rejected, bench.run, pair).index, 0)
            raised(TooManyEdits, bench.add, (0,))
            raised(BadEdit, bench.run, [None])
            raised(BadEdits, bench.run, None)

    def test_not_strong(self):
        for bench_class in (StrongBench, LoggedStrongBench):
            bench = bench_class(C)
            before = state_of(bench)
            for at in range(len(FOUR_EDITS) + 1):
                error = raised(Rejected, bench.run, [*FOUR_EDITS[:at], ("add", ()), *FOUR_EDITS[at:]])
                self.assertEqual(error.index, at)
                self.assertEqual(state_of(bench), before)
            # Each table on the way is strong, not only the last one.
            self.assertEqual(raised(Rejected, bench.run, [("turn", 0, 1), ("turn", 0, 1)]).index, 0)
            self.assertEqual(state_of(bench), before)


class OnStepTest(unittest.TestCase):
    def test_the_bench_so_far(self):
        for bench_class in CLASSES:
            bench = bench_class(C)
            bench.add((0,))
            bench.undo()
            before = state_of(bench)
            seen = []

            def on_step(given):
                self.assertIs(given, bench)
                seen.append(state_of(given))
                return "not used"

            self.assertEqual(bench.run(FOUR_EDITS, on_step=on_step), 4)
            model = PlainBench(C, False, False)
            for state, edit in zip(seen, FOUR_EDITS, strict=True):
                model.edits.append(edit)
                expected = {**model.state(), "log": before["log"]}
                self.assertEqual(repr(state), repr(expected))

    def test_its_result_is_not_used(self):
        for value in (None, False, True, 0, [], Busy):
            self.assertEqual(Bench(C).run(FOUR_EDITS, on_step=lambda bench: value), 4)

    def test_queries_while_it_runs(self):
        bench = Bench(T)
        bench.turn(0, 1)
        seen = []

        def on_step(given):
            table = bench.table()
            self.assertEqual([given.best(kind) for kind in KINDS], [members(table, kind) for kind in KINDS])
            self.assertEqual(given.leaders()[-1], members(table, "support"))
            self.assertEqual(len(given.leaders()), given.version + 1)
            self.assertEqual(list(given.walk())[-1], (given.version, table))
            self.assertEqual(given.table(version=0), T)
            self.assertTrue(given == Bench(table))
            self.assertEqual(raised(NoVersion, lambda: given.table(version=given.version + 1)).value, given.version + 1)
            self.assertEqual(raised(NoKind, given.best, "best").value, "best")
            self.assertIs(Bench.is_edit(("add", ())), True)
            self.assertEqual(type(given).read(".").table(), (".",))
            seen.append((len(given), given.version, given.size, str(given)))

        self.assertEqual(bench.run([("add", ()), ("remove", 0), ("remove", 0)], on_step=on_step), 4)
        self.assertEqual(
            seen,
            [(2, 2, 5, "5 alternatives, 2 edits"), (3, 3, 4, "4 alternatives, 3 edits"),
             (4, 4, 3, "3 alternatives, 4 edits")],
        )

    def test_kinds_while_it_runs(self):
        for bench_class in CLASSES:
            bench = bench_class(C)

            def on_step(given):
                value = []
                self.assertIs(raised(NoKind, given.choose, value).value, value)
                given.kind = KINDS[given.version]
                self.assertEqual(given.choose(KINDS[given.version + 1]), KINDS[given.version])

            self.assertEqual(bench.run(FOUR_EDITS, on_step=on_step), 4)
            self.assertEqual(bench.kind, KINDS[5])

    def test_no_kind_while_it_runs(self):
        bench = LoggedBench(C)

        def on_step(given):
            for value in not_kinds():
                self.assertIs(raised(NoKind, setattr, given, "kind", value).value, value)

        bench.run(FOUR_EDITS, on_step=on_step)
        self.assertEqual([bench.kind, bench.log], ["support", (("run", 4),)])

    def test_a_kind_stays_whatever_happens(self):
        for bench_class in CLASSES:
            bench = bench_class(C)
            raised(Rejected, lambda: bench.run(
                [("add", (0,)), ("turn", 0, 0)], on_step=lambda given: given.choose("top"),
            ))
            self.assertEqual([bench.kind, bench.version], ["top", 0])

            def on_step(given):
                given.kind = "chain"
                raise Stop

            with self.assertRaises(Stop):
                bench.run(FOUR_EDITS, on_step=on_step)
            self.assertEqual([bench.kind, bench.version], ["chain", 0])

            def wrong_kind(given):
                given.kind = "covering"
                given.kind = "best"

            self.assertEqual(raised(NoKind, lambda: bench.run(FOUR_EDITS, on_step=wrong_kind)).value, "best")
            self.assertEqual([bench.kind, bench.version], ["covering", 0])

    def test_an_exception_propagates_as_it_is(self):
        for bench_class in CLASSES:
            for made in (
                Stop(1), Halt(), ValueError("x"), LookupError(), KeyError(0), Rejected(7), Busy(), NoAlternative(3),
                BadEdit(0), BadEdits(), TooManyEdits(), StopIteration(), GeneratorExit(), KeyboardInterrupt(),
            ):
                for at in range(1, 5):
                    bench = bench_class(C)
                    bench.add((0,))
                    bench.undo()
                    before = state_of(bench)
                    calls = []

                    def on_step(given):
                        calls.append(given.version)
                        if given.version == at:
                            raise made

                    with self.assertRaises(BaseException) as caught:
                        bench.run(FOUR_EDITS, on_step=on_step)
                    self.assertIs(caught.exception, made)
                    self.assertEqual(calls, list(range(1, at + 1)))
                    self.assertEqual(repr(state_of(bench)), repr(before))
                    self.assertEqual([bench.run(FOUR_EDITS), bench.undo()], [4, 3])

    def test_the_list_is_changed_meanwhile(self):
        for change in (
            lambda edits: edits.clear(),
            lambda edits: edits.append(("turn", 0, 0)),
            lambda edits: edits.insert(0, None),
            lambda edits: edits.reverse(),
            lambda edits: edits.extend([("add", ())] * 30),
        ):
            bench = Bench(C)
            edits = list(FOUR_EDITS)
            self.assertEqual(bench.run(edits, on_step=lambda given: change(edits)), 4)
            self.assertEqual(bench.edits(), FOUR_EDITS)
            self.assertEqual(bench.table(), tables_after(C, FOUR_EDITS)[-1])

    def test_the_list_is_changed_later(self):
        bench = Bench(C)
        edits = list(FOUR_EDITS)
        bench.run(edits)
        edits.clear()
        self.assertEqual([bench.edits(), bench.version], [FOUR_EDITS, 4])


class BusyTest(unittest.TestCase):
    def attempts(self, bench):
        """Calls that raise Busy while on_step of the bench runs, most of which would raise another error."""
        calls = [lambda edit=edit: call_edit(bench, edit) for edit in (*FOUR_EDITS, *wrong_edits(C))]
        calls += [bench.undo]
        for value in ([], (), FOUR_EDITS, [("turn", 0, 0)], [None], None, 0, [()] * 30):
            calls.append(lambda value=value: bench.run(value))
            calls.append(lambda value=value: bench.run(value, on_step=lambda given: None))
        return calls

    def test_before_any_other_error(self):
        for bench_class in CLASSES:
            bench = bench_class(C)
            counted = []

            def on_step(given):
                before = state_of(given)
                for call in self.attempts(given):
                    raised(Busy, call)
                    self.assertEqual(repr(state_of(given)), repr(before))
                counted.append(given.version)

            self.assertEqual(bench.run(FOUR_EDITS, on_step=on_step), 4)
            self.assertEqual([counted, bench.edits()], [[1, 2, 3, 4], FOUR_EDITS])

    def test_before_too_many_edits(self):
        bench = Bench(C)
        for _ in range(2):
            bench.run([("turn", 0, 1)] * 20)
        bench.run([("turn", 0, 1)] * 19)

        def on_step(given):
            self.assertEqual(given.version, 60)
            raised(Busy, given.turn, 0, 1)
            raised(Busy, given.turn, 0, 0)
            raised(Busy, given.run, [("turn", 0, 1)])

        self.assertEqual(bench.run([("turn", 0, 1)], on_step=on_step), 60)

    def test_one_that_is_not_handled(self):
        for bench_class in CLASSES:
            bench = bench_class(C)
            for number in range(len(self.attempts(bench))):
                before = state_of(bench)
                raised(Busy, lambda: bench.run(FOUR_EDITS, on_step=lambda given: self.attempts(given)[number]()))
                self.assertEqual(repr(state_of(bench)), repr(before))
            self.assertEqual(bench.run(FOUR_EDITS), 4)

    def test_free_again_afterwards(self):
        bench = Bench(C)

        def on_step(given):
            raised(Busy, given.undo)

        for _ in range(3):
            bench.run(FOUR_EDITS[:2], on_step=on_step)
            self.assertEqual([bench.undo(), bench.undo()], [1, 0])

    def test_still_busy_after_a_busy_run(self):
        """A run that raises Busy does not end that of the bench."""
        bench = Bench(C)

        def on_step(given):
            raised(Busy, given.run, [])
            raised(Busy, given.run, FOUR_EDITS)
            raised(Busy, given.turn, 0, 1)

        self.assertEqual(bench.run(FOUR_EDITS, on_step=on_step), 4)

    def test_a_second_bench_is_free(self):
        for bench_class, other_class in itertools.product(CLASSES, repeat=2):
            bench, other = bench_class(C), other_class(C)
            found = []

            def on_step(given):
                found.append([other.add((0,)), other.undo(), other.run([("add", (0,))]), other.remove(3)])

            self.assertEqual(bench.run(FOUR_EDITS, on_step=on_step), 4)
            self.assertEqual(found, [[at + 1, at, at + 1, at + 2] for at in (0, 2, 4, 6)])

    def test_a_run_within_on_step_of_another_bench(self):
        for bench_class, other_class in itertools.product(CLASSES, repeat=2):
            bench, other = bench_class(C), other_class(C)
            steps = []

            def inner(given):
                self.assertIs(given, other)
                raised(Busy, bench.undo)
                raised(Busy, other.undo)
                steps.append((bench.version, other.version))

            def outer(given):
                self.assertIs(given, bench)
                other.run(FOUR_EDITS[:2], on_step=inner)
                self.assertEqual([other.undo(), other.undo()], [1, 0])
                raised(Busy, bench.undo)

            self.assertEqual(bench.run(FOUR_EDITS, on_step=outer), 4)
            self.assertEqual(steps, [(at, number) for at in range(1, 5) for number in (1, 2)])

    def test_an_exception_through_two_runs(self):
        bench, other = Bench(C), LoggedBench(C)
        other.add((0,))
        before = [state_of(bench), state_of(other)]
        raised(Busy, lambda: bench.run(
            FOUR_EDITS, on_step=lambda given: other.run([("remove", 0)], on_step=lambda inner: bench.turn(0, 1)),
        ))
        self.assertEqual(repr([state_of(bench), state_of(other)]), repr(before))
        # An error of the inner run is an exception of the outer on_step, not that of an edit.
        error = raised(Rejected, lambda: bench.run(
            FOUR_EDITS, on_step=lambda given: other.run([("add", ()), ("add", ()), ("remove", 9)]),
        ))
        self.assertEqual(error.index, 2)
        self.assertEqual(repr([state_of(bench), state_of(other)]), repr(before))

    def test_a_shell_on_the_bench(self):
        bench = Bench(circle(5))
        shell = Shell(bench)
        answers = []

        def on_step(given):
            for line in ("turn 0 1", "turn 9 9", "undo", "add none", "remove 0"):
                self.assertEqual(shell.execute(line), "error Busy")
            answers.append([shell.execute("table"), shell.execute("turn"), shell.execute("sequence 0")])

        bench.run([("remove", 4), ("remove", 3)], on_step=on_step)
        self.assertEqual(answers[1], [".++/-.+/--.", "unknown command", "error NoOrder"])


if __name__ == "__main__":
    unittest.main()
