"""A shell: it is told by lines what to do with a live net, and answers by lines."""

from holdsfast.base.words import is_place
from holdsfast.errors import (
    InvalidNet, InvalidNumber, InvalidOperation, NothingToUndo, ParseError, Refused, UnknownPlace,
)
from holdsfast.text.texts import number_of, number_text, read, write
from holdsfast.use.live import WORDS, Live
from holdsfast.ways.numbers import number

# What stands behind the word of a command: P a place, N a number of at least 1, and C a claim, which has blanks.
FORMS = {
    "tie": "PPN", "untie": "PPN", "add": "P", "remove": "P", "pin": "C", "unpin": "C", "undo": "N", "redo": "N",
    "least": "", "trees": "", "forests": "", "strength": "", "crowding": "", "number": "PP", "show": "", "pins": "",
}
BETWEEN = "; "


class Shell:
    """A shell that keeps a live net, at first none."""

    def __init__(self):
        self._live = None
        self._many = 0

    def tell(self, line):
        """Do what a line says, and return the answer."""
        if not isinstance(line, str):
            raise ParseError(None)
        try:
            answer = self._answer(line)
        except ParseError:
            return "error ParseError"
        except InvalidNet:
            return "error InvalidNet"
        except InvalidOperation:
            return "error InvalidOperation"
        except UnknownPlace:
            return "error UnknownPlace"
        except InvalidNumber:
            return "error InvalidNumber"
        except NothingToUndo:
            return "error NothingToUndo"
        except Refused:
            return "error Refused"
        self._many += 1
        return answer

    def _answer(self, line):
        word, _, rest = line.partition(" ")
        if "\n" in line:
            raise ParseError(None)
        if word == "net":
            self._live = Live(read("net", rest.replace(BETWEEN, "\n")))
            return "ok"
        given = _given(word, line)
        if self._live is None:
            raise InvalidNet("there is no net yet")
        if word in WORDS:
            return _fact_text(self._live[word])
        if word == "number":
            return str(number(self._live.net, *given))
        if word == "show":
            return write("net", self._live.net).replace("\n", BETWEEN)
        if word == "pins":
            return _joined([write("claim", claim) for claim in self._live.pins])
        return _news_text(_changed(self._live, word, given))

    def tell_all(self, lines):
        """Return the tuple of the answers to the lines of a tuple."""
        if not isinstance(lines, tuple) or not all([isinstance(line, str) for line in lines]):
            raise InvalidOperation("this is no tuple of strings")
        return tuple([self.tell(line) for line in lines])

    def live(self):
        """Return a twin of the live net, None if there is none."""
        return None if self._live is None else self._live.twin()

    def __len__(self):
        return len(range(self._many))


def _given(word, line):
    """Return the list of what a line tells behind the word of its command."""
    if word not in FORMS:
        raise ParseError(None)
    form = FORMS[word]
    rows = line.split(" ")[1:]
    if form == "C":
        return [read("claim", " ".join(rows))]
    if len(rows) != len(form):
        raise ParseError(None)
    return [_place_of(row) if sign == "P" else _many_of(row) for sign, row in zip(form, rows)]


def _place_of(text):
    if not is_place(text):
        raise ParseError(None)
    return text


def _many_of(text):
    many = number_of(text)
    if many is None or many < 1:
        raise ParseError(None)
    return many


def _changed(live, word, given):
    """Change a live net as a command says, and return the news."""
    if word == "tie":
        return live.tie(*given)
    if word == "untie":
        return live.untie(*given)
    if word == "add":
        return live.add(given[0])
    if word == "remove":
        return live.remove(given[0])
    if word == "pin":
        return live.pin(given[0])
    if word == "unpin":
        return live.unpin(given[0])
    if word == "undo":
        return live.undo(many=given[0])
    return live.redo(many=given[0])


def _news_text(news):
    return _joined([f"{word} {_fact_text(before)} {_fact_text(now)}" for word, before, now in news])


def _fact_text(value):
    return "none" if value is None else number_text(value)


def _joined(rows):
    return BETWEEN.join(rows) if rows else "-"
