"""Desks, which do commands with a live book."""

from everylevel.basics import is_numeral
from everylevel.errors import InvalidCommand
from everylevel.following import follows
from everylevel.live import Live
from everylevel.solutions import lowest, span


class Desk:
    """Does commands with a live book, `live`, which is None until the first command `names`."""

    def __init__(self):
        self.live = None

    def say(self, command):
        """Do a command, and tell its result as a text."""
        word, *rest = _words_of(command)
        if word == "names":
            self.live = Live(rest)
            return str(len(rest))
        if self.live is None:
            raise InvalidCommand()
        return _done(self.live, word, rest)


def _words_of(command):
    """The words of a command; `InvalidCommand` for any value that is not of one of the forms."""
    if not isinstance(command, str) or "\n" in command:
        raise InvalidCommand()
    words = command.split(" ")
    if "" in words or not _is_form(words[0], words[1:]):
        raise InvalidCommand()
    return words


def _is_form(word, rest):
    """Whether a command can have this first word and these words behind it."""
    if word in ("names", "demand", "follows"):
        return len(rest) > 0
    if word == "span":
        return len(rest) == 1
    if word == "drop":
        return len(rest) == 1 and is_numeral(rest[0]) and len(rest[0]) <= 2
    return word in ("lowest", "undo") and len(rest) == 0


def _done(live, word, rest):
    """Do a command other than `names` with a live book, and tell its result."""
    text = " ".join(rest)
    if word == "demand":
        return live.demand(text)
    if word == "drop":
        return str(live.drop(int(text)))
    if word == "undo":
        return "undone" if live.undo() else "nothing"
    if word == "follows":
        return "yes" if follows(live.book, text) else "no"
    if word == "span":
        return _span_text(span(live.book, text))
    return ", ".join([_row_text(row) for row in lowest(live.book)])


def _span_text(pair):
    """The text for the least and the greatest value of a name."""
    least, most = pair
    top = "any" if most is None else str(most)
    return f"{least} {top}"


def _row_text(row):
    """The text for some numbers."""
    return " ".join([str(number) for number in row])
