"""Benches: tables that are edited and undone, also strong ones only, and with a log."""

from duelsets.bounds import BATCH, EDITS, MAX_SIZE
from duelsets.checks import is_integer, is_set, require_alternative
from duelsets.errors import (
    BadEdit, BadEdits, BadTable, Busy, DuelError, LastOne, NoAlternative, NoSet, NotStrong, NothingToUndo, NoVersion,
    Rejected, TooLarge, TooManyEdits,
)
from duelsets.kinds import members, require_kind
from duelsets.tables import outsiders, pick_table, table_error, turn_duel
from duelsets.texts import parse_table
from duelsets.tops import layers


def edited_table(table, edit):
    """Return the table after an edit."""
    if edit[0] == "turn":
        return turn_duel(table, edit[1], edit[2])
    if edit[0] == "add":
        return with_another(table, edit[1])
    return without_one(table, edit[1])


def with_another(table, wins):
    """Return the table with one more alternative, the last one, that beats exactly those in wins."""
    if not is_set(table, wins):
        raise NoSet(wins)
    if len(table) >= MAX_SIZE:
        raise TooLarge(MAX_SIZE)
    rows = [row + ("-" if one in wins else "+") for one, row in enumerate(table)]
    rows.append("".join(["+" if one in wins else "-" for one in range(len(table))]) + ".")
    return tuple(rows)


def without_one(table, one):
    """Return the table without an alternative."""
    require_alternative(table, one)
    if len(table) == 1:
        raise LastOne()
    return pick_table(table, outsiders(table, (one,)))


def require_strong(table):
    """Raise NotStrong with the layers unless there is one only."""
    found = layers(table)
    if len(found) > 1:
        raise NotStrong(found)


class Bench:
    """A table, and the edits that led to it and can be undone."""

    MOST_EDITS = 60
    WORDS = ("turn", "add", "remove")

    def __init__(self, table):
        error = table_error(table)
        if error is not None:
            raise BadTable(error)
        # The tables of all versions and the edits between them are tuples: what run keeps to go back to stays as it is.
        self.states = (table,)
        self.standing = ()
        self.chosen = "support"
        self.busy = False

    @classmethod
    def read(cls, text):
        """Return a bench with the table of a text."""
        return cls(parse_table(text))

    @staticmethod
    def is_edit(value):
        """Return whether any value is an edit, perhaps one that cannot be done."""
        if not isinstance(value, tuple) or len(value) == 0 or value[0] not in Bench.WORDS:
            return False
        return len(value) == (3 if value[0] == "turn" else 2)

    @property
    def version(self):
        """The number of edits that stand."""
        return len(self.standing)

    @property
    def size(self):
        """The number of alternatives."""
        return len(self.states[-1])

    @property
    def kind(self):
        """The kind that leaders uses."""
        return self.chosen

    @kind.setter
    def kind(self, value):
        require_kind(value)
        self.chosen = value

    def choose(self, kind):
        """Assign the kind and return the one before."""
        before = self.chosen
        self.kind = kind
        return before

    def turn(self, one, other):
        """Give the duel between two alternatives the other winner, and return the new version."""
        return self.edit_once(("turn", one, other))

    def add(self, wins):
        """Add an alternative that beats exactly those in wins, and return the new version."""
        return self.edit_once(("add", wins))

    def remove(self, one):
        """Remove an alternative, and return the new version."""
        return self.edit_once(("remove", one))

    def undo(self):
        """Remove the last edit that stands, and return the new version."""
        self.require_free()
        if len(self.standing) == 0:
            raise NothingToUndo()
        self.states = self.states[:-1]
        self.standing = self.standing[:-1]
        return self.version

    def run(self, edits, *, on_step=None):
        """Do all edits or none of them, calling on_step after each one, and return the new version."""
        self.require_free()
        batch = self.copied_batch(edits)
        states, standing = self.states, self.standing
        self.busy = True
        try:
            self.do_batch(batch, on_step)
            states, standing = self.states, self.standing
        finally:
            # Without an exception this changes nothing; with any it takes back all edits of this run.
            self.states, self.standing = states, standing
            self.busy = False
        return self.version

    def copied_batch(self, edits):
        """Return the edits of a run as a list of its own, which the caller cannot change later."""
        if not isinstance(edits, (list, tuple)) or len(edits) > BATCH:
            raise BadEdits()
        batch = list(edits)
        for at, edit in enumerate(batch):
            if not self.is_edit(edit):
                raise BadEdit(at)
        return batch

    def do_batch(self, batch, on_step):
        """Do the edits of a run in order."""
        for at, edit in enumerate(batch):
            try:
                self.do_edit(edit)
            except (DuelError, NoAlternative):
                raise Rejected(at)
            # Outside of the try: what on_step raises is not the error of an edit.
            if on_step is not None:
                on_step(self)

    def edit_once(self, edit):
        """Do an edit that is not part of a run, and return the new version."""
        self.require_free()
        self.do_edit(edit)
        return self.version

    def do_edit(self, edit):
        """Do an edit, or raise its error."""
        if len(self.standing) >= EDITS:
            raise TooManyEdits()
        table = edited_table(self.states[-1], edit)
        self.require_fit(table)
        self.states = self.states + (table,)
        self.standing = self.standing + (edit,)

    def require_fit(self, table):
        """Raise an error if the bench does not take the table that would result; this one takes all."""

    def require_free(self):
        """Raise Busy while on_step runs."""
        if self.busy:
            raise Busy()

    def state_at(self, version):
        """Return the table after this many edits, or the current one for None."""
        if version is None:
            return self.states[-1]
        if not is_integer(version) or not 0 <= version < len(self.states):
            raise NoVersion(version)
        return self.states[version]

    def table(self, *, version=None):
        """Return the table."""
        return self.state_at(version)

    def best(self, kind, *, version=None):
        """Return the set of this kind of the table."""
        return members(self.state_at(version), kind)

    def edits(self):
        """Return the tuple of the edits that stand."""
        return self.standing

    def leaders(self):
        """Return the sets of the chosen kind for all versions."""
        return tuple([members(table, self.chosen) for table in self.states])

    def walk(self):
        """Yield (version, table) for each version."""
        for version, table in enumerate(self.states):
            yield (version, table)

    def __len__(self):
        return len(self.standing)

    def __str__(self):
        return f"{len(self.states[-1])} alternatives, {len(self.standing)} edits"

    def __eq__(self, other):
        return isinstance(other, Bench) and self.states[-1] == other.states[-1]


class StrongBench(Bench):
    """A bench whose table is always strong."""

    def __init__(self, table):
        super().__init__(table)
        require_strong(table)

    def require_fit(self, table):
        """Raise NotStrong if the table that would result is not strong."""
        require_strong(table)


class LoggedBench(Bench):
    """A bench that notes each call of an editing method, undo or run that raises nothing."""

    def __init__(self, table):
        super().__init__(table)
        self.rows = ()

    @property
    def log(self):
        """The tuple of the rows (name, version)."""
        return self.rows

    def note(self, name, version):
        """Add a row, and return the version."""
        self.rows = self.rows + ((name, version),)
        return version

    def turn(self, one, other):
        """Turn a duel as a bench does, and note it."""
        return self.note("turn", super().turn(one, other))

    def add(self, wins):
        """Add an alternative as a bench does, and note it."""
        return self.note("add", super().add(wins))

    def remove(self, one):
        """Remove an alternative as a bench does, and note it."""
        return self.note("remove", super().remove(one))

    def undo(self):
        """Undo an edit as a bench does, and note it."""
        return self.note("undo", super().undo())

    def run(self, edits, *, on_step=None):
        """Run edits as a bench does, and note it as one call."""
        return self.note("run", super().run(edits, on_step=on_step))


class LoggedStrongBench(LoggedBench, StrongBench):
    """A bench whose table is always strong, with a log."""

    def __init__(self, table):
        super().__init__(table)
