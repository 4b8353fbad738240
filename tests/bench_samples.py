"""Edits of benches, and a plain model of what benches do, that the tests share. Nothing here uses the package."""

from tests.definitions import dominant_family, is_number, is_plain_set
from tests.samples import odd_values
from tests.shapes import circle, drawn_table, linear_table, turned, without

C = (".+-", "-.+", "+-.")
WORDS = ("turn", "add", "remove")
KINDS = ("all", "top", "uncovered", "chain", "covering", "support")

# Each of them can be done on C after those before it, also by a strong bench.
FOUR_EDITS = (("add", (0,)), ("add", (1, 3)), ("turn", 0, 4), ("remove", 3))


def with_last(table, wins):
    """The table with one more alternative at the end, which beats exactly those in wins."""
    rows = [row + "+-"[one in wins] for one, row in enumerate(table)]
    return tuple(rows + ["".join("-+"[one in wins] for one in range(len(table))) + "."])


def plain_layers(table):
    inner, found = set(), []
    for members in dominant_family(table):
        found.append(tuple(one for one in members if one not in inner))
        inner = set(members)
    return tuple(found)


def own_error(table, edit):
    """The name of the error of an edit and its field, if it has one, or None if the edit can be done."""
    word, *values = edit
    if word == "add":
        if not is_plain_set(table, values[0]):
            return ("NoSet", values[0])
        return ("TooLarge", 9) if len(table) == 9 else None
    for value in values:
        if not is_number(table, value):
            return ("NoAlternative", value)
    if word == "turn":
        return ("SameAlternative", values[0]) if values[0] == values[1] else None
    return ("LastOne",) if len(table) == 1 else None


def plain_edited(table, edit):
    """The table after an edit that can be done."""
    word, *values = edit
    if word == "turn":
        return turned(table, *values)
    return with_last(table, *values) if word == "add" else without(table, *values)


def error_parts(error):
    """The name of an error and its fields."""
    return (error.__class__.__name__, *error.__dict__.values())


class PlainBench:
    """What a bench is said to do, without regard to speed; a call results in ("returned", what) or ("raised", what)."""

    def __init__(self, table, strong, logged):
        self.first = table
        self.strong = strong
        self.logged = logged
        self.edits = []
        self.kind = "support"
        self.log = []

    def table(self, version=None):
        table = self.first
        for edit in self.edits if version is None else self.edits[:version]:
            table = plain_edited(table, edit)
        return table

    def error_of(self, edit):
        if len(self.edits) == 60:
            return ("TooManyEdits",)
        error = own_error(self.table(), edit)
        if error is None and self.strong:
            found = plain_layers(plain_edited(self.table(), edit))
            error = ("NotStrong", found) if len(found) > 1 else None
        return error

    def noted(self, name):
        if self.logged:
            self.log.append((name, len(self.edits)))
        return ("returned", len(self.edits))

    def edit(self, edit):
        error = self.error_of(edit)
        if error is not None:
            return ("raised", error)
        self.edits.append(edit)
        return self.noted(edit[0])

    def undo(self):
        if not self.edits:
            return ("raised", ("NothingToUndo",))
        self.edits.pop()
        return self.noted("undo")

    def run(self, edits):
        before = list(self.edits)
        for at, edit in enumerate(edits):
            if self.error_of(edit) is not None:
                self.edits = before
                return ("raised", ("Rejected", at))
            self.edits.append(edit)
        return self.noted("run")

    def state(self):
        tables = tuple(self.table(version) for version in range(len(self.edits) + 1))
        return {
            "table": tables[-1],
            "edits": tuple(self.edits),
            "version": len(self.edits),
            "size": len(tables[-1]),
            "kind": self.kind,
            "len": len(self.edits),
            "str": f"{len(tables[-1])} alternatives, {len(self.edits)} edits",
            "tables": tables,
            "walk": list(enumerate(tables)),
            "log": tuple(self.log) if self.logged else None,
        }


def state_of(bench):
    """All that a bench tells of itself, in the form of PlainBench.state."""
    return {
        "table": bench.table(),
        "edits": bench.edits(),
        "version": bench.version,
        "size": bench.size,
        "kind": bench.kind,
        "len": len(bench),
        "str": str(bench),
        "tables": tuple(bench.table(version=version) for version in range(bench.version + 1)),
        "walk": list(bench.walk()),
        "log": bench.log if hasattr(bench, "log") else None,
    }


def result_of(function, *arguments):
    """What a call gives, in the form of the results of PlainBench."""
    try:
        return ("returned", function(*arguments))
    except (ValueError, LookupError) as error:
        return ("raised", error_parts(error))


def call_edit(bench, edit):
    """Call the editing method of an edit."""
    word, *values = edit
    return getattr(bench, word)(*values)


def right_edits(table):
    """All edits that can be done, except that only some sets of many alternatives are added."""
    size = len(table)
    edits = [("turn", one, other) for one in range(size) for other in range(size) if one != other]
    if size > 1:
        edits += [("remove", one) for one in range(size)]
    if size < 9:
        everyone = tuple(range(size))
        edits += [("add", wins) for wins in {(), everyone, everyone[::2], everyone[1:], everyone[:1], everyone[-1:]}]
    return edits


def wrong_edits(table):
    """Edits that cannot be done, with arguments that are made anew for each call."""
    size = len(table)
    edits = [("turn", 0, 0), ("turn", size - 1, size - 1), ("add", (0, 0)), ("add", (size,)), ("add", (False,))]
    edits += [("turn", True, 0), ("turn", 0, False), ("turn", True, True), ("remove", True), ("remove", size)]
    edits += [("add", (0, True)), ("add", (-1,)), ("add", [0]), ("add", 0), ("remove", (0,)), ("remove", -1)]
    for value in odd_values():
        if not is_number(table, value):
            edits += [("turn", value, 0), ("turn", 0, value), ("turn", value, value), ("turn", value, [value])]
            edits += [("remove", value)]
        if not is_plain_set(table, value):
            edits += [("add", value), ("add", (0, value)), ("add", (value,))]
    if size == 1:
        edits.append(("remove", 0))
    if size == 9:
        edits += [("add", wins) for wins in ((), (0,), tuple(range(9)), (1, 3, 8))]
    assert all(own_error(table, edit) for edit in edits)
    return edits


def drawn_edit(chance, table, wrong):
    """An edit that can be done, or with this probability any wrong one."""
    size = len(table)
    if chance.random() < wrong:
        return chance.choice(wrong_edits(table))
    words = ["turn"] * 3 * (size > 1) + ["remove"] * (size > 1) + ["add"] * 2 * (size < 9)
    word = chance.choice(words)
    if word == "turn":
        return ("turn", *chance.sample(range(size), 2))
    if word == "remove":
        return ("remove", chance.randrange(size))
    return ("add", tuple(one for one in range(size) if chance.random() < 0.5))


def drawn_batch(chance, table, wrong, most):
    """Edits, each of which can be done after those before it, with this probability of any wrong one."""
    edits = []
    for _ in range(chance.randint(0, most)):
        edit = drawn_edit(chance, table, wrong)
        edits.append(edit)
        if own_error(table, edit) is None:
            table = plain_edited(table, edit)
    return edits


def first_tables(chance, strong):
    """Tables to begin with."""
    if strong:
        return [(".",), C, circle(5), circle(7), circle(9)]
    return [(".",), (".+", "-."), C, linear_table(4), *(drawn_table(chance, size) for size in (2, 5, 7, 8, 9))]


def not_versions(version):
    """Values, except None, that are not versions up to this one, made anew for each call."""
    values = [value for value in odd_values() if value is not None and type(value) is not int]
    return [*values, -1, -version - 1, version + 1, version + 2, 10 ** 29, (), (0,), "0", "None", [0]]
