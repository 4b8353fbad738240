"""A shell: lines of text are commands to a bench, and are answered by texts."""

from duelsets.errors import (
    Busy, LastOne, NoAlternative, NoOrder, NoSet, NotStrong, NothingToUndo, SameAlternative, TooLarge, TooManyEdits,
)
from duelsets.lotteries import lottery
from duelsets.sequences import careful_winner, sequence_winner
from duelsets.texts import set_text, table_text

UNKNOWN = "unknown command"
MOST_DIGITS = 3


def is_number(word):
    """Return whether a word is an integer of at most three digits, without a sign and without leading zeros."""
    if not word.isascii() or not word.isdigit() or len(word) > MOST_DIGITS:
        return False
    return word == "0" or word[0] != "0"


def are_numbers(words):
    """Return whether all words are numbers."""
    return all([is_number(word) for word in words])


def is_set_argument(words):
    """Return whether words are one or more numbers, or the one word none."""
    return words == ["none"] or (len(words) > 0 and are_numbers(words))


def read_numbers(words):
    """Return the numbers of words that are numbers, or of the one word none."""
    if words == ["none"]:
        return ()
    return tuple([int(word) for word in words])


def ok_text(version):
    """Return the answer to a command that changed the bench."""
    return f"ok {version}"


class Shell:
    """Commands to one bench."""

    def __init__(self, bench):
        self.bench = bench

    def execute(self, line):
        """Return the answer to any value; what is not a command is unknown."""
        if not isinstance(line, str):
            return UNKNOWN
        words = line.split(" ")
        try:
            return self.answer(words[0], words[1:])
        except Busy:
            return "error Busy"
        except LastOne:
            return "error LastOne"
        except NoAlternative:
            return "error NoAlternative"
        except NoOrder:
            return "error NoOrder"
        except NoSet:
            return "error NoSet"
        except NotStrong:
            return "error NotStrong"
        except NothingToUndo:
            return "error NothingToUndo"
        except SameAlternative:
            return "error SameAlternative"
        except TooLarge:
            return "error TooLarge"
        except TooManyEdits:
            return "error TooManyEdits"

    def answer(self, word, rest):
        """Return the answer to a command of a word and the words behind it, or raise the error of the call."""
        if len(rest) == 0:
            return self.answer_alone(word)
        if word in ("add", "sequence", "careful") and is_set_argument(rest):
            return self.answer_set(word, read_numbers(rest))
        if word == "turn" and len(rest) == 2 and are_numbers(rest):
            return ok_text(self.bench.turn(int(rest[0]), int(rest[1])))
        if word == "remove" and len(rest) == 1 and are_numbers(rest):
            return ok_text(self.bench.remove(int(rest[0])))
        return UNKNOWN

    def answer_alone(self, word):
        """Return the answer to a command without arguments."""
        if word == "undo":
            return ok_text(self.bench.undo())
        if word == "table":
            return table_text(self.bench.table()).replace("\n", "/")
        if word == "lottery":
            return set_text(lottery(self.bench.table()))
        if word in ("top", "uncovered", "chain", "covering", "support"):
            return set_text(self.bench.best(word))
        return UNKNOWN

    def answer_set(self, word, numbers):
        """Return the answer to a command with a set or an order."""
        if word == "add":
            return ok_text(self.bench.add(numbers))
        if word == "sequence":
            return str(sequence_winner(self.bench.table(), numbers))
        return str(careful_winner(self.bench.table(), numbers))
