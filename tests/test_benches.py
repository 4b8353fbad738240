"""Points [3], [15] and [16] and section 9: benches without run, which tests/test_runs.py tests. Point [2] (g).

What is said of all benches is tested for all four classes.
"""

import inspect
import itertools
import random
import time
import unittest

from duelsets.benches import Bench, LoggedBench, LoggedStrongBench, StrongBench
from duelsets.bounds import EDITS
from duelsets.errors import (
    BadTable, BadText, LastOne, NoAlternative, NoKind, NoSet, NothingToUndo, NotStrong, NoVersion, SameAlternative,
    TooLarge, TooManyEdits,
)
from duelsets.kinds import members
from duelsets.tables import table_error
from duelsets.texts import parse_table, table_text
from tests.bench_samples import (
    C, KINDS, WORDS, PlainBench, call_edit, drawn_batch, drawn_edit, error_parts, first_tables, not_versions,
    own_error, plain_edited, plain_layers, result_of, right_edits, state_of, with_last, wrong_edits,
)
from tests.samples import T, U, all_tables, not_kinds, odd_values, raised, sets_by_size, spoiled
from tests.shapes import circle, every_shape, linear_table, shaped_tables, turned, without

CLASSES = (Bench, StrongBench, LoggedBench, LoggedStrongBench)
FREE = (Bench, LoggedBench)


def model_of(bench):
    return PlainBench(bench.table(), isinstance(bench, StrongBench), isinstance(bench, LoggedBench))


def full_bench(bench_class, table=C):
    """A bench on which as many edits stand as it holds; its table is the first one again."""
    bench = bench_class(table)
    for _ in range(30):
        bench.add(())
        bench.remove(len(table))
    return bench


def numbered_back(table):
    """The table in which the last alternative is the first one, and so on."""
    return tuple(row[::-1] for row in table[::-1])


class ConstructorTest(unittest.TestCase):
    def test_example(self):
        self.assertEqual(repr(str(Bench((".+-", "-.+", "+-.")))), "'3 alternatives, 0 edits'")

    def test_a_new_bench(self):
        for table in every_shape():
            for bench_class in CLASSES:
                if bench_class in FREE or len(plain_layers(table)) == 1:
                    bench = bench_class(table)
                    self.assertEqual(repr(state_of(bench)), repr(model_of(bench).state()))
                    self.assertEqual(repr(bench.table()), repr(table))

    def test_bad_table(self):
        values = [*odd_values(), (), 0, 1, ((),), (".",) * 2, ("x",), (".+", "+."), linear_table(10), (True,), [C]]
        for bench_class in CLASSES:
            for value in [*values, (C,), *spoiled(C, 3), *spoiled(U, 4)]:
                error = table_error(value)
                if error is not None:
                    self.assertEqual(repr(raised(BadTable, bench_class, value).error), repr(error))

    def test_class_values(self):
        for bench_class in CLASSES:
            self.assertEqual(repr(bench_class.MOST_EDITS), "60")
            self.assertEqual(repr(bench_class.WORDS), "('turn', 'add', 'remove')")
            self.assertEqual(repr([bench_class(C).MOST_EDITS, bench_class(C).WORDS]), "[60, ('turn', 'add', 'remove')]")
        self.assertEqual(Bench.MOST_EDITS, EDITS)

    def test_benches_do_not_share_anything(self):
        for bench_class in CLASSES:
            one, other = bench_class(C), bench_class(C)
            before = state_of(other)
            one.turn(0, 1) if bench_class in FREE else one.run([("add", (0,)), ("turn", 3, 1)])
            one.kind = "top"
            self.assertEqual(state_of(other), before)

    def test_parameters(self):
        for bench_class in CLASSES:
            self.assertEqual(str(inspect.signature(bench_class)), "(table)")
            for name, text in (
                ("read", "(text)"), ("is_edit", "(value)"), ("choose", "(self, kind)"), ("turn", "(self, one, other)"),
                ("add", "(self, wins)"), ("remove", "(self, one)"), ("undo", "(self)"),
                ("run", "(self, edits, *, on_step=None)"), ("table", "(self, *, version=None)"),
                ("best", "(self, kind, *, version=None)"), ("edits", "(self)"), ("leaders", "(self)"),
                ("walk", "(self)"),
            ):
                self.assertEqual(str(inspect.signature(getattr(bench_class, name))), text, name)
            for name in ("version", "size", "kind"):
                self.assertIsInstance(inspect.getattr_static(bench_class, name), property)
            self.assertIsInstance(inspect.getattr_static(bench_class, "read"), classmethod)
            self.assertIsInstance(inspect.getattr_static(bench_class, "is_edit"), staticmethod)

    def test_classes(self):
        self.assertEqual(StrongBench.__bases__, (Bench,))
        self.assertEqual(LoggedBench.__bases__, (Bench,))
        self.assertEqual(LoggedStrongBench.__bases__, (LoggedBench, StrongBench))


class ReadTest(unittest.TestCase):
    def test_example(self):
        self.assertEqual(
            repr([Bench.read(".+\n-.").table(), Bench.is_edit(("turn", 5)), Bench.is_edit(("add", None))]),
            "[('.+', '-.'), False, True]",
        )

    def test_a_bench_of_the_class(self):
        for bench_class in CLASSES:
            for table in ((".",), C, circle(9)):
                for bench in (bench_class.read(table_text(table)), bench_class(C).read(table_text(table))):
                    self.assertIs(type(bench), bench_class)
                    self.assertEqual(repr(state_of(bench)), repr(state_of(bench_class(table))))

    def test_bad_text(self):
        texts = ["", ".+", ".\n", ".+\n+.", ".+\n-.\n", "x", "\n" * 9, "a" * 2000, table_text(linear_table(10))]
        for bench_class in CLASSES:
            for value in [*odd_values(), 0, (), C, *texts]:
                if value != "." and value != ".+\n-.":
                    error = raised(BadText, bench_class.read, value).error
                    self.assertEqual(repr(error), repr(raised(BadText, parse_table, value).error))

    def test_what_the_constructor_raises(self):
        for table in (T, (".+", "-."), linear_table(9)):
            for bench_class in (StrongBench, LoggedStrongBench):
                error = raised(NotStrong, bench_class.read, table_text(table))
                self.assertEqual(repr(error.layers), repr(plain_layers(table)))


class IsEditTest(unittest.TestCase):
    def check(self, value, expected):
        for bench_class in CLASSES:
            self.assertIs(bench_class.is_edit(value), expected, repr(value)[:200])
        self.assertIs(Bench(C).is_edit(value), expected)

    def test_words_and_numbers_of_arguments(self):
        for word in (*WORDS, "undo", "run", "Turn", "turn ", "", "choose", "table", "ad"):
            for many in range(6):
                right = many == 2 if word == "turn" else many == 1 and word in WORDS
                for argument in (0, None, True, (), [0], "turn", ("turn", 0, 1)):
                    self.check((word,) + (argument,) * many, right)
                    self.check([word] + [argument] * many, False)

    def test_whatever_the_arguments_are(self):
        for value in odd_values():
            self.check(("turn", value, value), True)
            self.check(("add", value), True)
            self.check(("remove", value), True)

    def test_any_value(self):
        for value in [*odd_values(), 0, 1, (), "turn", "add", ("turn", 0), T, C, {"turn": (0, 1)}]:
            self.check(value, False)
            self.check((value,), False)
            if type(value) is not str:
                self.check((value, 0), False)
                self.check((value, 0, 1), False)
                self.check((["turn"], 0, 1), False)

    def test_edits_with_parts_replaced(self):
        for edit in (("turn", 0, 1), ("add", (0, 1)), ("remove", 2)):
            for value in spoiled(edit, 3):
                right = type(value) is tuple and len(value) == len(edit) and value[0] == edit[0]
                self.check(value, right)

    def test_equal_calls_and_arguments(self):
        value = ["turn", [0]]
        self.assertEqual([Bench.is_edit(value), Bench.is_edit(value), value], [False, False, ["turn", [0]]])


class KindTest(unittest.TestCase):
    def test_example(self):
        bench = Bench((".+-", "-.+", "+-."))
        self.assertEqual(
            repr([bench.choose("top"), bench.add((0,)), bench.version, bench.size, bench.kind, bench.leaders()]),
            "['support', 1, 1, 4, 'top', ((0, 1, 2), (0, 1, 2, 3))]",
        )

    def test_chosen_and_assigned(self):
        for bench_class in CLASSES:
            bench = bench_class(C)
            before = "support"
            for kind, chosen in itertools.product(KINDS, repeat=2):
                self.assertEqual(repr(bench.choose(kind)), repr(before))
                self.assertEqual(bench.kind, kind)
                bench.kind = chosen
                self.assertEqual(bench.kind, chosen)
                before = chosen
            self.assertEqual([bench.version, bench.edits(), len(bench)], [0, (), 0])

    def test_no_kind(self):
        for bench_class in CLASSES:
            bench = bench_class(C)
            bench.kind = "chain"
            bench.add((0,))
            before = state_of(bench)
            for value in not_kinds():
                self.assertIs(raised(NoKind, bench.choose, value).value, value)
                self.assertIs(raised(NoKind, setattr, bench, "kind", value).value, value)
                self.assertEqual(state_of(bench), before)

    def test_undo_does_not_change_it(self):
        for bench_class in CLASSES:
            bench = bench_class(C)
            bench.add((0,))
            bench.kind = "top"
            bench.add((0,))
            bench.choose("covering")
            self.assertEqual([bench.undo(), bench.kind, bench.undo(), bench.kind], [1, "covering", 0, "covering"])

    def test_it_does_not_change_best(self):
        bench = Bench(T)
        for kind in KINDS:
            bench.kind = kind
            for other in KINDS:
                self.assertEqual(bench.best(other), members(T, other))

    def test_what_cannot_be_assigned(self):
        for bench_class in CLASSES:
            bench = bench_class(C)
            bench.add((0,))
            before = state_of(bench)
            for name in ("version", "size"):
                with self.assertRaises(AttributeError):
                    setattr(bench, name, 0)
            self.assertEqual(state_of(bench), before)


class EditsTest(unittest.TestCase):
    def test_examples(self):
        bench = Bench((".+-", "-.+", "+-."))
        self.assertEqual(repr([bench.turn(0, 2), bench.remove(1), bench.table()]), "[1, 2, ('.+', '-.')]")
        bench = Bench((".",))
        self.assertEqual(repr([bench.add((0,)), bench.undo(), bench.table()]), "[1, 0, ('.',)]")

    def test_each_edit_of_each_table(self):
        for table in every_shape()[::3]:
            for bench_class in FREE:
                bench = bench_class(table)
                for edit in right_edits(table):
                    self.assertEqual(repr(call_edit(bench, edit)), "1")
                    self.assertEqual(repr(bench.table()), repr(plain_edited(table, edit)))
                    self.assertEqual(repr(bench.edits()), repr((edit,)))
                    self.assertEqual(bench.undo(), 0)
                    self.assertEqual(repr(bench.table()), repr(table))

    def test_turn(self):
        for table in (C, T, U, circle(9)):
            for one, other in itertools.permutations(range(len(table)), 2):
                bench = Bench(table)
                self.assertEqual(bench.turn(one, other), 1)
                self.assertEqual(bench.table(), turned(table, one, other))
                self.assertEqual([bench.turn(other, one), bench.table()], [2, table])

    def test_add_all_sets(self):
        for table in (*all_tables(2), C, T, circle(8)):
            for wins in sets_by_size(len(table)):
                bench = Bench(table)
                self.assertEqual(bench.add(wins), 1)
                self.assertEqual(bench.table(), with_last(table, wins))

    def test_remove(self):
        for table in (*all_tables(2), T, U, circle(9)):
            for one in range(len(table)):
                bench = Bench(table)
                self.assertEqual(bench.remove(one), 1)
                self.assertEqual(bench.table(), without(table, one))

    def test_wrong_edits(self):
        for bench_class in CLASSES:
            for table in (C, (".",), circle(5), circle(9)):
                bench = bench_class(table)
                before = state_of(bench)
                for edit in wrong_edits(table):
                    name, *fields = own_error(table, edit)
                    with self.assertRaises((ValueError, LookupError)) as caught:
                        call_edit(bench, edit)
                    found, *values = error_parts(caught.exception)
                    self.assertEqual(found, name, repr(edit)[:200])
                    self.assertEqual(len(values), len(fields))
                    for value, field in zip(values, fields):
                        self.assertIs(value, field)
                    self.assertEqual(state_of(bench), before)

    def test_the_first_error_first(self):
        bench = Bench(C)
        first, second = [3], [3]
        self.assertIs(raised(NoAlternative, bench.turn, first, second).value, first)
        self.assertIs(raised(NoAlternative, bench.turn, 0, second).value, second)
        self.assertIs(raised(NoAlternative, bench.turn, 3, 3).value, 3)
        self.assertEqual(raised(SameAlternative, bench.turn, 2, 2).value, 2)
        full = Bench(circle(9))
        self.assertIs(raised(NoSet, full.add, first).value, first)
        self.assertEqual(raised(TooLarge, full.add, ()).limit, 9)
        single = Bench((".",))
        self.assertIs(raised(NoAlternative, single.remove, False).value, False)
        raised(LastOne, single.remove, 0)
        self.assertEqual(raised(SameAlternative, single.turn, 0, 0).value, 0)

    def test_what_is_passed_later_changed(self):
        bench = Bench(C)
        wrong = [0]
        error = raised(NoSet, bench.add, wrong)
        wrong.append(1)
        self.assertIs(error.value, wrong)
        self.assertEqual(bench.table(), C)

    def test_versions_follow(self):
        for bench_class in CLASSES:
            bench = bench_class(C)
            tables = [C]
            for number, edit in enumerate([("add", (0,)), ("add", (0,)), ("turn", 3, 4), ("remove", 3)], 1):
                self.assertEqual(repr(call_edit(bench, edit)), str(number))
                tables.append(plain_edited(tables[-1], edit))
                self.assertEqual([bench.version, len(bench)], [number, number])
                self.assertEqual(str(bench), f"{len(tables[-1])} alternatives, {number} edits")
                self.assertEqual([bench.table(version=at) for at in range(number + 1)], tables)

    def test_always_these_words(self):
        bench = Bench((".",))
        self.assertEqual(str(bench), "1 alternatives, 0 edits")
        bench.add(())
        self.assertEqual([str(bench), bench.undo(), bench.add((0,)), str(bench)], [
            "2 alternatives, 1 edits", 0, 1, "2 alternatives, 1 edits",
        ])


class TooManyEditsTest(unittest.TestCase):
    def test_sixty_edits_stand(self):
        for bench_class in FREE:
            bench = full_bench(bench_class)
            self.assertEqual([bench.version, len(bench), len(bench.edits())], [60, 60, 60])
            before = state_of(bench)
            for edit in (*right_edits(C), *wrong_edits(C)):
                raised(TooManyEdits, call_edit, bench, edit)
                self.assertEqual(state_of(bench), before)

    def test_before_not_strong(self):
        for bench_class in (StrongBench, LoggedStrongBench):
            bench = bench_class(C)
            for number in range(60):
                self.assertEqual(bench.add((0,)) if number % 2 == 0 else bench.remove(3), number + 1)
            for edit in (*right_edits(C), *wrong_edits(C)):
                raised(TooManyEdits, call_edit, bench, edit)
            self.assertEqual(bench.version, 60)

    def test_an_edit_that_was_undone_does_not_stand(self):
        bench = full_bench(Bench)
        for _ in range(3):
            self.assertEqual([bench.undo(), bench.undo()], [59, 58])
            self.assertEqual([bench.turn(0, 1), bench.turn(1, 0)], [59, 60])
            raised(TooManyEdits, bench.turn, 0, 1)

    def test_undo_all(self):
        bench = full_bench(Bench)
        self.assertEqual([bench.undo() for _ in range(60)], list(range(59, -1, -1)))
        self.assertEqual([bench.table(), bench.edits()], [C, ()])
        raised(NothingToUndo, bench.undo)

    def test_an_edit_that_raises_does_not_count(self):
        bench = Bench(C)
        for _ in range(100):
            raised(SameAlternative, bench.turn, 0, 0)
        self.assertEqual([bench.version, bench.turn(0, 1)], [0, 1])


class UndoTest(unittest.TestCase):
    def test_nothing_to_undo(self):
        for bench_class in CLASSES:
            bench = bench_class(C)
            before = state_of(bench)
            raised(NothingToUndo, bench.undo)
            self.assertEqual(state_of(bench), before)
            bench.add((0,))
            bench.undo()
            raised(NothingToUndo, bench.undo)
            self.assertEqual([bench.version, bench.table()], [0, C])

    def test_back_to_each_state_before(self):
        chance = random.Random(5)
        for table in first_tables(chance, False):
            bench = Bench(table)
            states = []
            for edit in drawn_batch(chance, table, 0, 40):
                states.append(state_of(bench))
                call_edit(bench, edit)
            while states:
                self.assertEqual(bench.undo(), len(states) - 1)
                self.assertEqual(repr(state_of(bench)), repr(states.pop()))

    def test_a_version_that_was_undone_is_gone(self):
        bench = Bench(C)
        bench.turn(0, 2)
        bench.remove(0)
        self.assertEqual(bench.table(version=2), (".+", "-."))
        bench.undo()
        self.assertEqual(raised(NoVersion, lambda: bench.table(version=2)).value, 2)
        bench.turn(1, 2)
        self.assertEqual(bench.table(version=2), turned(turned(C, 0, 2), 1, 2))
        self.assertEqual(bench.edits(), (("turn", 0, 2), ("turn", 1, 2)))


class QueriesTest(unittest.TestCase):
    def test_examples(self):
        bench = Bench((".+-", "-.+", "+-."))
        self.assertEqual(
            repr([bench.turn(0, 2), bench.best("top"), bench.best("top", version=0)]), "[1, (0,), (0, 1, 2)]"
        )
        bench = Bench((".+-", "-.+", "+-."))
        self.assertEqual(
            repr([bench.turn(0, 2), bench.edits(), bench.leaders()]), "[1, (('turn', 0, 2),), ((0, 1, 2), (0,))]"
        )
        bench = Bench((".+", "-."))
        self.assertEqual(
            repr([bench.turn(0, 1), list(bench.walk())]), "[1, [(0, ('.+', '-.')), (1, ('.-', '+.'))]]"
        )

    def edited(self):
        chance = random.Random(6)
        for bench_class in CLASSES:
            for table in first_tables(chance, bench_class not in FREE):
                bench = bench_class(table)
                for _ in range(12):
                    result_of(call_edit, bench, drawn_edit(chance, bench.table(), 0))
                yield bench

    def test_all_versions(self):
        for bench in self.edited():
            model = model_of(type(bench)(bench.table(version=0)))
            model.edits = list(bench.edits())
            for version in range(bench.version + 1):
                table = model.table(version)
                self.assertEqual(repr(bench.table(version=version)), repr(table))
                for kind in KINDS:
                    self.assertEqual(repr(bench.best(kind, version=version)), repr(members(table, kind)))
            self.assertEqual(repr(bench.table(version=None)), repr(model.table()))
            for kind in KINDS:
                self.assertEqual(repr(bench.best(kind)), repr(members(model.table(), kind)))
                self.assertEqual(repr(bench.best(kind, version=None)), repr(members(model.table(), kind)))

    def test_leaders_and_walk(self):
        for bench in self.edited():
            tables = [bench.table(version=version) for version in range(bench.version + 1)]
            for kind in KINDS:
                bench.kind = kind
                self.assertEqual(repr(bench.leaders()), repr(tuple(members(table, kind) for table in tables)))
            self.assertEqual(repr(list(bench.walk())), repr(list(enumerate(tables))))

    def test_walk_is_a_generator(self):
        bench = Bench(C)
        bench.turn(0, 1)
        found = bench.walk()
        self.assertIs(iter(found), found)
        self.assertTrue(inspect.isgenerator(found))
        self.assertEqual(next(found), (0, C))
        self.assertEqual([list(found), list(found)], [[(1, turned(C, 0, 1))], []])
        self.assertEqual([one for one in bench.walk()], [one for one in bench.walk()])

    def test_no_version(self):
        for bench in self.edited():
            before = state_of(bench)
            for value in not_versions(bench.version):
                self.assertIs(raised(NoVersion, lambda: bench.table(version=value)).value, value)
                self.assertIs(raised(NoVersion, lambda: bench.best("top", version=value)).value, value)
                # Before NoKind.
                self.assertIs(raised(NoVersion, lambda: bench.best([], version=value)).value, value)
            self.assertEqual(state_of(bench), before)

    def test_bools_are_no_versions(self):
        bench = Bench(C)
        bench.turn(0, 1)
        for value in (True, False):
            self.assertIs(raised(NoVersion, lambda: bench.table(version=value)).value, value)
            self.assertIs(raised(NoVersion, lambda: bench.best("all", version=value)).value, value)

    def test_no_kind(self):
        bench = Bench(C)
        bench.turn(0, 1)
        for value in not_kinds():
            self.assertIs(raised(NoKind, bench.best, value).value, value)
            for version in (None, 0, 1):
                self.assertIs(raised(NoKind, lambda: bench.best(value, version=version)).value, value)

    def test_version_is_passed_by_keyword(self):
        bench = Bench(C)
        with self.assertRaises(TypeError):
            bench.table(0)
        with self.assertRaises(TypeError):
            bench.best("top", 0)

    def test_what_was_returned_does_not_change(self):
        bench = Bench(C)
        bench.turn(0, 1)
        results = [bench.edits(), bench.table(), bench.leaders(), bench.best("all")]
        before = repr(results)
        bench.add((0,))
        bench.undo()
        bench.undo()
        self.assertEqual(repr(results), before)

    def test_queries_change_nothing(self):
        for bench in self.edited():
            before = repr(state_of(bench))
            results = []
            for _ in range(2):
                results.append(repr([bench.leaders(), bench.edits(), bench.table(), list(bench.walk()), str(bench)]))
            self.assertEqual(results[0], results[1])
            self.assertEqual(repr(state_of(bench)), before)

    def test_sixty_edits_of_nine_alternatives_at_once(self):
        for table in (circle(9), linear_table(9), *shaped_tables(9)[:4]):
            start = time.perf_counter()
            bench = Bench(table)
            for number in range(60):
                bench.turn(number % 8, 8)
            for kind in KINDS:
                bench.kind = kind
                self.assertEqual(len(bench.leaders()), 61)
            self.assertLess(time.perf_counter() - start, 6)


class EqualTest(unittest.TestCase):
    def test_example(self):
        table = (".",)
        self.assertEqual(
            repr([len(Bench(table)), Bench(table) == Bench(table), Bench(table) == table]), "[0, True, False]"
        )

    def test_benches_of_all_classes(self):
        tables = [(".",), C, numbered_back(C), circle(5), circle(7)]
        for one, other in itertools.product(tables, repeat=2):
            for first, second in itertools.product(CLASSES, repeat=2):
                self.assertIs(first(one) == second(other), one == other)
                self.assertIs(first(one) != second(other), one != other)

    def test_only_the_current_table_counts(self):
        one, other = Bench(C), LoggedStrongBench(C)
        other.kind = "top"
        other.add((0,))
        self.assertFalse(one == other)
        one.add((0,))
        self.assertTrue(one == other)
        other.undo()
        one.remove(3)
        self.assertTrue(one == other and other == one)
        self.assertEqual([len(one), len(other)], [2, 0])
        self.assertFalse(Bench(C) == Bench((".-+", "+.-", "-+.")))

    def test_with_no_other_value(self):
        for bench_class in CLASSES:
            bench = bench_class((".",))
            for value in [*odd_values(), 0, (), (".",), T, "1 alternatives, 0 edits", object(), bench_class, Bench]:
                self.assertIs(bench == value, False)
                self.assertIs(value == bench, False)
                self.assertIs(bench != value, True)


class CurrentTableTest(unittest.TestCase):
    """[2] (g)"""

    def test_two_ways_to_a_table(self):
        chance = random.Random(7)
        for table in every_shape()[::5]:
            straight = Bench(table)
            other = Bench(chance.choice([(".",), C, circle(5)]))
            while other.size > 1:
                other.remove(chance.randrange(other.size))
            for size in range(1, len(table)):
                other.add(tuple(one for one in range(size) if table[size][one] == "+"))
            self.assertEqual(repr(other.table()), repr(straight.table()))
            self.assertTrue(other == straight)
            for kind in KINDS:
                self.assertEqual(repr(other.best(kind)), repr(straight.best(kind)))

    def test_undoing_restores(self):
        chance = random.Random(8)
        for bench_class in CLASSES:
            for table in first_tables(chance, bench_class not in FREE):
                bench = bench_class(table)
                for _ in range(5):
                    result_of(call_edit, bench, drawn_edit(chance, bench.table(), 0))
                before, version = state_of(bench), bench.version
                best = [bench.best(kind) for kind in KINDS]
                for _ in range(10):
                    result_of(call_edit, bench, drawn_edit(chance, bench.table(), 0.2))
                while bench.version > version:
                    bench.undo()
                after = state_of(bench)
                del before["log"], after["log"]
                self.assertEqual(repr(after), repr(before))
                self.assertEqual([bench.best(kind) for kind in KINDS], best)


class DrawnTest(unittest.TestCase):
    """All calls that change a bench, in any order, against a plain model."""

    def step(self, chance, bench, model):
        number = chance.random()
        if number < 0.6:
            edit = drawn_edit(chance, bench.table(), 0.1)
            return result_of(call_edit, bench, edit), model.edit(edit)
        if number < 0.7:
            return result_of(bench.undo), model.undo()
        if number < 0.9:
            edits = drawn_batch(chance, bench.table(), 0.05, 20)
            return result_of(bench.run, chance.choice([list, tuple])(edits)), model.run(edits)
        before, model.kind = model.kind, chance.choice(KINDS)
        return result_of(bench.choose, model.kind), ("returned", before)

    def test_drawn_calls(self):
        for bench_class, seed in itertools.product(CLASSES, range(6)):
            chance = random.Random(seed)
            for table in first_tables(chance, bench_class not in FREE):
                bench = bench_class(table)
                model = model_of(bench)
                for _ in range(25):
                    found, expected = self.step(chance, bench, model)
                    self.assertEqual(repr(found), repr(expected))
                self.assertEqual(repr(state_of(bench)), repr(model.state()))
                self.assertEqual(repr(bench.leaders()[-1]), repr(members(model.table(), model.kind)))


if __name__ == "__main__":
    unittest.main()
