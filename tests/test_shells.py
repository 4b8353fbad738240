"""Points [3] and [19] of section 10: the shell."""

import inspect
import itertools
import random
import re
import unittest

from duelsets.benches import Bench, LoggedBench, LoggedStrongBench, StrongBench
from duelsets.kinds import members
from duelsets.lotteries import lottery
from duelsets.sequences import careful_winner, sequence_winner
from duelsets.shells import Shell
from tests.bench_samples import C, drawn_edit, state_of
from tests.samples import T, U, odd_values, sets_by_size
from tests.shapes import circle, every_shape, linear_table, shaped_tables, shuffled_order

CLASSES = (Bench, StrongBench, LoggedBench, LoggedStrongBench)
UNKNOWN = "unknown command"
N = "(?:0|[1-9][0-9]?[0-9]?)"
COMMAND = re.compile(
    f"turn {N} {N}|(?:add|sequence|careful) (?:none|{N}(?: {N})*)|remove {N}"
    "|undo|table|top|uncovered|chain|covering|support|lottery"
)
ALONE = ("undo", "table", "top", "uncovered", "chain", "covering", "support", "lottery")


def plain_answer(bench, line):
    """The answer to a line by calls to a bench of its own, which must be equal to that of the shell."""
    if not isinstance(line, str) or not COMMAND.fullmatch(line):
        return UNKNOWN
    word, *rest = line.split(" ")
    numbers = () if rest == ["none"] else tuple(map(int, rest))
    try:
        if word in ("turn", "remove", "undo"):
            return f"ok {getattr(bench, word)(*numbers)}"
        if word == "add":
            return f"ok {bench.add(numbers)}"
        if word == "table":
            return "/".join(bench.table())
        if word == "lottery":
            return " ".join(map(str, lottery(bench.table())))
        if word == "sequence":
            return str(sequence_winner(bench.table(), numbers))
        if word == "careful":
            return str(careful_winner(bench.table(), numbers))
    except (ValueError, LookupError) as error:
        return f"error {error.__class__.__name__}"
    return " ".join(map(str, members(bench.table(), word)))


class ShellTest(unittest.TestCase):
    def check_unknown(self, line):
        for bench_class in CLASSES:
            bench = bench_class(C)
            bench.add((0,))
            before = repr(state_of(bench))
            self.assertEqual(repr(Shell(bench).execute(line)), repr(UNKNOWN), repr(line)[:200])
            self.assertEqual(repr(state_of(bench)), before)

    def check_lines(self, table, *pairs):
        shell = Shell(Bench(table))
        for line, answer in pairs:
            self.assertEqual(repr(shell.execute(line)), repr(answer), line)


class AnswersTest(ShellTest):
    def test_example(self):
        shell = Shell(Bench((".+-", "-.+", "+-.")))
        self.assertEqual(
            repr([
                shell.execute("support"), shell.execute("turn 0 2"), shell.execute("lottery"),
                shell.execute("careful 0 1"), shell.execute("turn 0"),
            ]),
            "['0 1 2', 'ok 1', '1 0 0', 'error NoOrder', 'unknown command']",
        )

    def test_parameters(self):
        self.assertEqual(str(inspect.signature(Shell)), "(bench)")
        self.assertEqual(str(inspect.signature(Shell.execute)), "(self, line)")

    def test_on_this_very_bench(self):
        for bench_class in CLASSES:
            bench = bench_class(C)
            shell, other = Shell(bench), Shell(bench)
            self.assertEqual([shell.execute("add 0"), bench.version, other.execute("table")], [
                "ok 1", 1, ".+--/-.++/+-.+/+--.",
            ])
            self.assertEqual([bench.undo(), shell.execute("undo"), other.execute("table")], [
                0, "error NothingToUndo", ".+-/-.+/+-.",
            ])
            bench.kind = "top"
            shell.execute("chain")
            self.assertEqual(bench.kind, "top")

    def test_rows_of_a_log(self):
        bench = LoggedStrongBench(C)
        shell = Shell(bench)
        lines = ["add 0", "turn 0 0", "undo", "undo", "add none", "top", "lottery", "remove 9", "add 1", "remove 3"]
        for line in lines:
            shell.execute(line)
        self.assertEqual(bench.log, (("add", 1), ("undo", 0), ("add", 1), ("remove", 2)))

    def test_edits(self):
        self.check_lines(
            C, ("turn 0 2", "ok 1"), ("table", ".++/-.+/--."), ("remove 1", "ok 2"), ("table", ".+/-."),
            ("add none", "ok 3"), ("table", ".++/-.+/--."), ("add 0 2", "ok 4"), ("table", ".++-/-.++/--.-/+-+."),
            ("undo", "ok 3"), ("undo", "ok 2"), ("undo", "ok 1"), ("undo", "ok 0"), ("undo", "error NothingToUndo"),
            ("table", ".+-/-.+/+-."),
        )

    def test_errors(self):
        self.check_lines(
            C, ("turn 0 3", "error NoAlternative"), ("turn 999 0", "error NoAlternative"),
            ("turn 1 1", "error SameAlternative"), ("turn 3 3", "error NoAlternative"), ("add 3", "error NoSet"),
            ("add 1 0", "error NoSet"), ("add 0 0", "error NoSet"), ("add 0 1 2 3", "error NoSet"),
            ("remove 3", "error NoAlternative"), ("undo", "error NothingToUndo"), ("sequence 0 1", "error NoOrder"),
            ("sequence none", "error NoOrder"), ("careful none", "error NoOrder"), ("careful 0 1 1", "error NoOrder"),
            ("sequence 0 1 2 2", "error NoOrder"), ("sequence 0 1 3", "error NoOrder"), ("table", ".+-/-.+/+-."),
        )
        self.check_lines((".",), ("remove 0", "error LastOne"), ("turn 0 0", "error SameAlternative"))
        self.check_lines(
            circle(9), ("add none", "error TooLarge"), ("add 9", "error NoSet"), ("add 0 8", "error TooLarge"),
        )
        shell = Shell(StrongBench(C))
        self.assertEqual(
            [shell.execute(line) for line in ("turn 0 1", "add none", "add 0 1 2", "remove 0", "turn 1 1", "add 0")],
            ["error NotStrong"] * 4 + ["error SameAlternative", "ok 1"],
        )

    def test_too_many_edits(self):
        shell = Shell(Bench(C))
        for number in range(1, 61):
            self.assertEqual(shell.execute("turn 0 1"), f"ok {number}")
        for line in ("turn 0 1", "turn 0 0", "add none", "add 9", "remove 0", "remove 9"):
            self.assertEqual(shell.execute(line), "error TooManyEdits")
        self.assertEqual([shell.execute("undo"), shell.execute("remove 0")], ["ok 59", "ok 60"])

    def test_sets_and_lotteries(self):
        for table in every_shape():
            shell = Shell(Bench(table))
            for word in ALONE[1:]:
                self.assertEqual(shell.execute(word), plain_answer(Bench(table), word))
        self.check_lines(
            U, ("top", "0 1 2 3"), ("uncovered", "0 1 3"), ("chain", "0 1 3"), ("covering", "0 1 3"),
            ("support", "0 1 3"), ("lottery", "1 1 0 1"), ("all", UNKNOWN),
        )

    def test_winners(self):
        for size in range(1, 10):
            for table in shaped_tables(size)[:6]:
                shell = Shell(Bench(table))
                for seed in range(10):
                    order = shuffled_order(seed, size)
                    text = " ".join(map(str, order))
                    self.assertEqual(shell.execute("sequence " + text), str(sequence_winner(table, order)))
                    self.assertEqual(shell.execute("careful " + text), str(careful_winner(table, order)))

    def test_add_all_sets(self):
        for wins in sets_by_size(4):
            bench, other = Bench(T), Bench(T)
            other.add(wins)
            self.assertEqual(Shell(bench).execute("add " + (" ".join(map(str, wins)) or "none")), "ok 1")
            self.assertEqual(bench.edits(), other.edits())
            self.assertTrue(bench == other)

    def test_equal_calls_return_equal_results(self):
        shell = Shell(Bench(U))
        for line in (*ALONE[1:], "sequence 3 2 1 0", "careful 0 1 2 3", "sequence 0", "turn 0 0", "x", ""):
            self.assertEqual(shell.execute(line), shell.execute(line))


class UnknownTest(ShellTest):
    def test_values_that_are_not_texts(self):
        for value in [*odd_values(), 0, (), ("undo",), ["undo"], {"undo": None}, T, ("turn", 0, 1)]:
            if not isinstance(value, str):
                self.check_unknown(value)

    def test_other_lines(self):
        for line in (
            "", " ", "  ", "none", "0", "0 1", "all", "run", "kind", "choose top", "best top", "Table", "TABLE",
            "tables", "tabl", "help", "edits", "leaders", "version", "size", "read .", "is_edit", "walk", "execute",
            "undo\n", "\nundo", "undo\ntable", "table/", ".", "+", "-", "turn,0,1", "turn-0-1", "error", "ok 1",
            "a" * 2000,
        ):
            self.check_unknown(line)

    def test_empty_words(self):
        for command in ("turn 0 1", "add 0", "add 0 1", "add none", "remove 0", "undo", "table", "top", "uncovered",
                        "chain", "covering", "support", "lottery", "sequence 0 1 2 3", "careful 0 1 2 3"):
            self.check_unknown(" " + command)
            self.check_unknown(command + " ")
            self.check_unknown(command + "\n")
            self.check_unknown("\n" + command)
            self.check_unknown(command.upper())
            if " " in command:
                self.check_unknown(command.replace(" ", "  ", 1))
                self.check_unknown(command.replace(" ", "\n"))
                self.check_unknown(command.replace(" ", ""))

    def test_numbers(self):
        for number in (
            "00", "01", "007", "1000", "0000", "9999", "+1", "-1", "-0", "1.0", "1e1", "0x1", "1_0", "one", "", "None",
            "True", "x", "1x", "x1", "1,", "(1)", "none", "None", "NONE", "1\n", "9" * 30,
        ):
            self.check_unknown(f"turn {number} 0")
            self.check_unknown(f"turn 0 {number}")
            self.check_unknown(f"remove {number}")
            for word in ("add", "sequence", "careful"):
                self.check_unknown(f"{word} 0 {number}")
                self.check_unknown(f"{word} {number} 0")
                if number != "none":
                    self.check_unknown(f"{word} {number}")
                else:
                    self.check_unknown(f"{word} none none")

    def test_numbers_of_up_to_three_digits(self):
        for number in ("10", "99", "100", "999"):
            self.check_lines(
                C, (f"turn {number} 0", "error NoAlternative"), (f"turn 0 {number}", "error NoAlternative"),
                (f"remove {number}", "error NoAlternative"), (f"add {number}", "error NoSet"),
                (f"sequence 0 1 {number}", "error NoOrder"), (f"careful {number}", "error NoOrder"),
            )

    def test_many_numbers(self):
        line = " ".join(["0"] * 500)
        self.check_lines(C, ("add " + line, "error NoSet"), ("sequence " + line, "error NoOrder"))
        self.check_unknown("turn " + line)

    def test_numbers_of_arguments(self):
        for word in ("turn", "add", "remove", "sequence", "careful"):
            self.check_unknown(word)
        for word in ("turn", "remove"):
            for many in range(6):
                if many != {"turn": 2, "remove": 1}[word]:
                    self.check_unknown(" ".join([word] + ["0"] * many))
            self.check_unknown(word + " none")
            self.check_unknown(word + " 0 none")
        for word in ALONE:
            for rest in ("0", "none", "0 1", word, "top", "x"):
                self.check_unknown(f"{word} {rest}")


class DrawnTest(ShellTest):
    def test_all_short_lines(self):
        words = ("turn", "add", "remove", "undo", "top", "careful", "0", "1", "none", "", "00", "1000")
        for many in range(1, 4):
            for line in itertools.product(words, repeat=many):
                text = " ".join(line)
                bench, other = Bench(C), Bench(C)
                self.assertEqual(Shell(bench).execute(text), plain_answer(other, text), repr(text))
                self.assertEqual(bench.edits(), other.edits())

    def drawn_line(self, chance, table):
        word = chance.choice(["edit", "edit", "undo", "order", "query", "mess"])
        if word == "edit":
            name, *values = drawn_edit(chance, table, 0)
            numbers = values[0] if name == "add" else values
            return name + " " + (" ".join(map(str, numbers)) or "none")
        if word == "order":
            order = chance.sample(range(len(table)), chance.choice([len(table)] * 3 + [0, 1]))
            return chance.choice(["sequence ", "careful "]) + (" ".join(map(str, order)) or "none")
        if word == "query":
            return chance.choice(ALONE[1:])
        if word == "mess":
            return " ".join(chance.choice(["turn", "add", "remove", "0", "3", "9", "none", "undo"]) for _ in range(3))
        return word

    def test_drawn_lines(self):
        for bench_class, seed in itertools.product(CLASSES, range(8)):
            chance = random.Random(seed)
            table = circle(chance.choice([1, 3, 5, 7, 9])) if seed % 2 else linear_table(1)
            bench, other = bench_class(table), bench_class(table)
            shell = Shell(bench)
            for _ in range(60):
                line = self.drawn_line(chance, bench.table())
                self.assertEqual(repr(shell.execute(line)), repr(plain_answer(other, line)), line)
            self.assertEqual(repr(state_of(bench)), repr(state_of(other)))


if __name__ == "__main__":
    unittest.main()
