"""Point [17], section 9: StrongBench, LoggedBench and LoggedStrongBench."""

import random
import unittest

from duelsets.benches import Bench, LoggedBench, LoggedStrongBench, StrongBench
from duelsets.errors import (
    BadEdit, BadEdits, BadTable, Busy, LastOne, NoAlternative, NoKind, NoSet, NothingToUndo, NotStrong, NoVersion,
    Rejected, SameAlternative, TooLarge,
)
from tests.bench_samples import (
    C, FOUR_EDITS, KINDS, call_edit, drawn_edit, own_error, plain_edited, plain_layers, right_edits, state_of,
    wrong_edits,
)
from tests.samples import T, U, all_tables, not_kinds, raised
from tests.shapes import circle, every_shape, linear_table

STRONG = (StrongBench, LoggedStrongBench)
LOGGED = (LoggedBench, LoggedStrongBench)


class StrongTest(unittest.TestCase):
    def test_example(self):
        bench = StrongBench((".+-", "-.+", "+-."))
        self.assertEqual(repr(raised(NotStrong, bench.turn, 0, 2).layers), "((0,), (1,), (2,))")

    def test_constructor(self):
        for table in [*every_shape(), *all_tables(5)[::5]]:
            found = plain_layers(table)
            for bench_class in STRONG:
                if len(found) == 1:
                    self.assertEqual(bench_class(table).table(), table)
                else:
                    self.assertEqual(repr(raised(NotStrong, bench_class, table).layers), repr(found))

    def test_bad_table_first(self):
        for bench_class in STRONG:
            for value in ((".+", "+."), (), None, (".+", "-"), linear_table(10)):
                raised(BadTable, bench_class, value)

    def test_each_edit(self):
        strong = [table for table in every_shape() if len(plain_layers(table)) == 1]
        counts = {True: 0, False: 0}
        for table in strong[::2]:
            for bench_class in STRONG:
                bench = bench_class(table)
                before = state_of(bench)
                for edit in right_edits(table):
                    found = plain_layers(plain_edited(table, edit))
                    counts[len(found) == 1] += 1
                    if len(found) == 1:
                        self.assertEqual(call_edit(bench_class(table), edit), 1)
                    else:
                        self.assertEqual(repr(raised(NotStrong, call_edit, bench, edit).layers), repr(found))
                        self.assertEqual(repr(state_of(bench)), repr(before))
        self.assertGreater(min(counts.values()), 200)

    def test_after_its_own_errors(self):
        # After each of these edits nothing would be strong, or there would be no table at all.
        for bench_class in STRONG:
            bench = bench_class(C)
            self.assertEqual(raised(NoAlternative, bench.turn, 3, 0).value, 3)
            self.assertEqual(raised(NoAlternative, bench.turn, 0, True).value, True)
            self.assertEqual(raised(SameAlternative, bench.turn, 1, 1).value, 1)
            self.assertEqual(raised(NoSet, bench.add, (0, 3)).value, (0, 3))
            self.assertEqual(raised(NoAlternative, bench.remove, 3).value, 3)
            raised(LastOne, bench_class((".",)).remove, 0)
            self.assertEqual(raised(TooLarge, bench_class(circle(9)).add, ()).limit, 9)
            for edit in wrong_edits(C):
                self.assertEqual(raised_name(bench, edit), own_error(C, edit)[0])

    def test_two_alternatives_are_never_strong(self):
        for bench_class in STRONG:
            for wins, layers in (((), ((0,), (1,))), ((0,), ((1,), (0,)))):
                bench = bench_class((".",))
                self.assertEqual(raised(NotStrong, bench.add, wins).layers, layers)
                self.assertEqual([bench.version, bench.table()], [0, (".",)])

    def test_undo_is_always_possible(self):
        chance = random.Random(10)
        for bench_class in STRONG:
            bench = bench_class(circle(5))
            done = 0
            while done < 40:
                try:
                    call_edit(bench, drawn_edit(chance, bench.table(), 0))
                    done += 1
                except NotStrong as error:
                    self.assertGreater(len(error.layers), 1)
                self.assertEqual(len(plain_layers(bench.table())), 1)
            self.assertEqual([bench.undo() for _ in range(40)], list(range(39, -1, -1)))

    def test_other_benches_are_not_strong(self):
        for bench_class in (Bench, LoggedBench):
            self.assertEqual(bench_class(T).turn(0, 3), 1)
            self.assertEqual(bench_class(C).turn(0, 2), 1)


def raised_name(bench, edit):
    try:
        call_edit(bench, edit)
    except (ValueError, LookupError) as error:
        return error.__class__.__name__
    return None


class LogTest(unittest.TestCase):
    def test_example(self):
        bench = LoggedBench((".",))
        self.assertEqual(
            repr([bench.run([("add", ()), ("add", (0,))]), bench.undo(), bench.log]),
            "[2, 1, (('run', 2), ('undo', 1))]",
        )

    def test_one_row_for_each_call(self):
        for bench_class in LOGGED:
            bench = bench_class(C)
            self.assertEqual(repr(bench.log), "()")
            rows = []
            for name, *arguments in (
                *FOUR_EDITS, ("undo",), ("undo",), ("run", []), ("run", [("add", (0,)), ("remove", 3)]), ("undo",),
                ("add", (1, 3)), ("run", (("turn", 0, 1),)),
            ):
                rows.append((name, getattr(bench, name)(*arguments)))
                self.assertEqual(repr(bench.log), repr(tuple(rows)))

    def test_no_row_for_a_call_that_raises(self):
        for bench_class in LOGGED:
            bench = bench_class(C)
            bench.add((0,))
            rows = bench.log
            for edit in wrong_edits(bench.table()):
                self.assertIsNotNone(raised_name(bench, edit))
            raised(BadEdits, bench.run, None)
            raised(BadEdit, bench.run, [None])
            raised(Rejected, bench.run, [("add", (0,)), ("turn", 0, 0)])
            with self.assertRaises(ZeroDivisionError):
                bench.run([("add", (0,)), ("remove", 4)], on_step=lambda given: 1 // 0)
            raised(Busy, lambda: bench.run([("add", (0,))], on_step=lambda given: given.undo()))
            self.assertEqual(bench.log, rows)
            self.assertEqual([bench.undo(), bench.log], [0, rows + (("undo", 0),)])
            raised(NothingToUndo, bench.undo)
            self.assertEqual(bench.log, rows + (("undo", 0),))

    def test_no_row_for_queries_and_kinds(self):
        for bench_class in LOGGED:
            bench = bench_class(C)
            bench.add((0,))
            rows = bench.log
            bench.kind = "top"
            bench.choose("chain")
            for value in not_kinds():
                raised(NoKind, bench.choose, value)
            bench.table(version=0), bench.best("top"), bench.edits(), bench.leaders(), list(bench.walk()), len(bench)
            raised(NoVersion, lambda: bench.table(version=9))
            self.assertTrue(bench == bench_class(bench.table()) and str(bench) == "4 alternatives, 1 edits")
            self.assertEqual(bench.log, rows)

    def test_a_run_adds_its_row_when_it_is_done(self):
        for bench_class in LOGGED:
            bench = bench_class(C)
            seen = []

            def on_step(given):
                raised(Busy, given.undo)
                given.kind = KINDS[given.version]
                seen.append(given.log)

            self.assertEqual(bench.run(FOUR_EDITS, on_step=on_step), 4)
            self.assertEqual([seen, bench.log], [[()] * 4, (("run", 4),)])

    def test_rows_of_two_benches(self):
        for bench_class in LOGGED:
            outer, inner = bench_class(C), LoggedBench(C)
            outer.run(FOUR_EDITS[:2], on_step=lambda given: inner.run([("add", ())], on_step=lambda other: None))
            self.assertEqual([outer.log, inner.log], [(("run", 2),), (("run", 1), ("run", 2))])

    def test_it_cannot_be_assigned(self):
        for bench_class in LOGGED:
            bench = bench_class(C)
            bench.add((0,))
            for value in ((), None, (("add", 1),)):
                with self.assertRaises(AttributeError):
                    bench.log = value
            self.assertEqual(bench.log, (("add", 1),))

    def test_what_was_returned_earlier_does_not_change(self):
        bench = LoggedBench(C)
        logs = [bench.log]
        for _ in range(3):
            bench.turn(0, 1)
            logs.append(bench.log)
        bench.undo()
        self.assertEqual(repr(logs), repr([(("turn", 1), ("turn", 2), ("turn", 3))[:many] for many in range(4)]))
        self.assertEqual(bench.log, (("turn", 1), ("turn", 2), ("turn", 3), ("undo", 2)))

    def test_longer_than_the_edits_that_stand(self):
        bench = LoggedBench(C)
        for number in range(100):
            bench.turn(0, 1)
            bench.undo()
        self.assertEqual(bench.log, (("turn", 1), ("undo", 0)) * 100)

    def test_other_benches_have_none(self):
        for bench_class in (Bench, StrongBench):
            self.assertFalse(hasattr(bench_class(C), "log"))


class LoggedStrongTest(unittest.TestCase):
    def test_example(self):
        bench = LoggedStrongBench.read(".+-\n-.+\n+-.")
        self.assertEqual(
            repr([isinstance(bench, StrongBench), isinstance(bench, LoggedBench), bench.log]), "[True, True, ()]"
        )

    def test_both(self):
        bench = LoggedStrongBench(C)
        self.assertEqual(raised(NotStrong, bench.turn, 0, 2).layers, ((0,), (1,), (2,)))
        self.assertEqual(raised(Rejected, bench.run, [("add", (0,)), ("remove", 3), ("add", ())]).index, 2)
        self.assertEqual([bench.log, bench.version], [(), 0])
        self.assertEqual([bench.run(FOUR_EDITS), bench.undo(), bench.turn(0, 4)], [4, 3, 4])
        self.assertEqual(bench.log, (("run", 4), ("undo", 3), ("turn", 4)))
        self.assertEqual(raised(NotStrong, LoggedStrongBench, T).layers, ((0, 1, 2), (3,)))
        self.assertEqual(LoggedStrongBench(U).log, ())

    def test_of_its_classes_alone(self):
        self.assertNotIsInstance(StrongBench(C), LoggedBench)
        self.assertNotIsInstance(LoggedBench(C), StrongBench)
        self.assertIsInstance(LoggedStrongBench(C), Bench)


if __name__ == "__main__":
    unittest.main()
