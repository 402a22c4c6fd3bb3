"""A shell, beside live nets that are told the same by their methods."""

import random
import unittest

from holdsfast.base.nets import Net
from holdsfast.errors import InvalidOperation, ParseError
from holdsfast.text.shell import Shell
from holdsfast.text.texts import write
from holdsfast.use.live import WORDS, Live
from holdsfast.ways.numbers import number
from tests.helpers import APART, FULL, HUB, ODD_VALUES, PATH, POINT, RING, SEVEN, TWO, Refusals, mixed_nets, raised, same

NO_COMMANDS = (
    "", " ", "jump", "Least", "least ", " least", "least 1", "least\n", "show a", "pins -", "number a", "number a b c", "number a B",
    "number a  b", "number", "tie a b", "tie a b 0", "tie a b 01", "tie a b -1", "tie a b x", "tie a b 1 1", "tie A b 1",
    "tie a b 1000000000000", "tie  a b 1", "tie a b 1 ", "untie a b", "untie a b +1", "add", "add A", "add a b", "add abcdefghi",
    "remove", "remove a b", "remove 1", "pin", "pin ", "pin least", "pin least -1", "pin least 1 ", "pin  least 1", "pin strength 2/4",
    "pin number a a 1", "unpin", "unpin x 1", "unpin least 01", "undo", "undo 0", "undo 01", "undo -1", "undo x", "undo 1 1", "redo",
    "redo 0", "redo 1 ", "net", "net ", "net b a", "net a b; a-b", "net a b;a-b:1", "net a b; a-b:1;", "net a b; a-b:1; ", "net  a",
    "net a b\na-b:1", "net a b; a-b:0", "net a; ", "tie a b 1\n", "\nleast", "tie\na b 1", "shrink a b a", "rename a b", "twin",
    "net a b ; a-b:1", "NET a", "-", "crowding -", "~" * 400, "facts",
)


def line_of(net):
    return "net " + write("net", net).replace("\n", "; ")


def fact_text(value):
    return "none" if value is None else f"{value[0]}/{value[1]}" if type(value) is tuple else str(value)


def news_text(news):
    return "; ".join(f"{word} {fact_text(before)} {fact_text(now)}" for word, before, now in news) or "-"


class TestShell(unittest.TestCase):
    def check_tell(self, shell, live, line, call):
        """Compare an answer with what a call on a live net returns, or with the error that it raises."""
        before = len(shell)
        error = None
        try:
            expected = call()
        except Exception as caught:
            error, expected = caught, f"error {type(caught).__name__}"
        self.assertEqual(shell.tell(line), expected, line)
        self.assertEqual(len(shell), before + (error is None))
        if live is not None:
            found = shell.live()
            self.assertTrue(found == live)
            self.assertEqual(found.log, live.log)

    def test_histories(self):
        numbers = random.Random(230)
        for net in (PATH, RING, HUB, POINT, TWO, APART, FULL) + tuple(net for net in mixed_nets(8, 231) if net.size <= 30):
            shell, live = Shell(), Live(net)
            self.assertEqual(shell.tell(line_of(net)), "ok")
            for _ in range(50):
                self.check_step(shell, live, numbers)

    def check_step(self, shell, live, numbers):
        places = list(live.net.places) + ["q", "r"]
        one, other, many = numbers.choice(places), numbers.choice(places), numbers.choice((1, 1, 2, 5, 70))
        claim = numbers.choice((("least", 1), ("least", 2), ("trees", 1), ("forests", 3), ("strength", (1, 1)), ("crowding", (5, 2)),
                                ("number", "a", "b", 1), ("number", "a", "b", 2), ("number", "b", "c", 0)))
        word = numbers.choice(WORDS)
        text = write("claim", claim)
        rows = [
            (f"tie {one} {other} {many}", lambda: news_text(live.tie(one, other, many))),
            (f"tie {one} {other} {many}", lambda: news_text(live.tie(one, other, many))),
            (f"untie {one} {other} {many}", lambda: news_text(live.untie(one, other, many))),
            (f"add {one}", lambda: news_text(live.add(one))),
            (f"remove {one}", lambda: news_text(live.remove(one))),
            (f"pin {text}", lambda: news_text(live.pin(claim))),
            (f"unpin {text}", lambda: news_text(live.unpin(claim))),
            (f"undo {many}", lambda: news_text(live.undo(many=many))),
            (f"redo {many}", lambda: news_text(live.redo(many=many))),
            (word, lambda: fact_text(live[word])),
            (f"number {one} {other}", lambda: str(number(live.net, one, other))),
            ("show", lambda: write("net", live.net).replace("\n", "; ")),
            ("pins", lambda: "; ".join(write("claim", claim) for claim in live.pins) or "-"),
        ]
        line, call = numbers.choice(rows)
        self.check_tell(shell, live, line, call)

    def test_each_error(self):
        shell = Shell()
        shell.tell(line_of(PATH))
        rows = (("tie a q 1", "UnknownPlace"), ("tie a a 1", "InvalidOperation"), ("tie a b 58", "InvalidNet"),
                ("untie a b 3", "InvalidNumber"), ("untie a c 1", "InvalidNumber"), ("add a", "InvalidNet"), ("remove d", "UnknownPlace"),
                ("pin least 2", "Refused"), ("unpin least 1", "InvalidOperation"), ("undo 1", "NothingToUndo"),
                ("redo 1", "NothingToUndo"), ("number a a", "InvalidOperation"), ("number q a", "UnknownPlace"),
                ("net a b; a-c:1", "InvalidNet"), ("net -", "InvalidNet"), ("net a b; a-b:31", "InvalidNet"), ("jump", "ParseError"),
                ("net a b; b-a:1", "ParseError"))
        for line, name in rows:
            self.assertEqual(shell.tell(line), f"error {name}", line)
        self.assertEqual((len(shell), shell.live() == Live(PATH)), (1, True))

    def test_lines_that_are_no_commands(self):
        for start in ((), ("net a b c; a-b:2",)):
            shell = Shell()
            shell.tell_all(start)
            for line in NO_COMMANDS:
                self.assertEqual(shell.tell(line), "error ParseError", line)
            self.assertEqual(len(shell), len(start))

    def test_without_a_net(self):
        shell = Shell()
        self.assertIsNone(shell.live())
        lines = ("tie a b 1", "untie a a 1", "add a", "remove a", "pin least 1", "unpin strength 3/2", "undo 1", "redo 1", "least", "trees",
                 "forests", "strength", "crowding", "number a b", "number a a", "show", "pins", "net -", "net a b; a-b:31")
        for line in lines:
            self.assertEqual(shell.tell(line), "error InvalidNet", line)
        self.assertEqual((len(shell), shell.live()), (0, None))

    def test_new_nets(self):
        shell = Shell()
        self.assertEqual(shell.tell_all((line_of(PATH), "tie a b 1", "pin trees 1", "net a b", "pins", "undo 1")),
                         ("ok", "crowding 2/1 3/1; forests 2 3", "-", "ok", "-", "error NothingToUndo"))
        self.assertTrue(shell.live() == Live(Net(("a", "b"))))
        # A net that cannot be read leaves the old one.
        self.assertEqual(shell.tell("net a b; a-b:99"), "error InvalidNet")
        self.assertEqual((shell.tell("show"), len(shell)), ("a b", 6))

    def test_nets_without_places_beside_one(self):
        shell = Shell()
        self.assertEqual(shell.tell_all(("net a", "least", "trees", "forests", "strength", "crowding", "show", "pin least 99", "add b")),
                         ("ok", "none", "none", "0", "none", "none", "a", "-", "error Refused"))
        self.assertEqual(shell.tell_all(("unpin least 99", "add b", "remove a", "undo 2")),
                         ("-", "crowding none 0/1; least none 0; strength none 0/1; trees none 0",
                          "crowding 0/1 none; least 0 none; strength 0/1 none; trees 0 none", "-"))

    def test_nets_with_many_ties(self):
        shell = Shell()
        self.assertEqual(shell.tell_all(("net a b; a-b:30", "tie a b 30", "show", "tie a b 1", "number b a")),
                         ("ok", "crowding 30/1 60/1; forests 30 60; least 30 60; strength 30/1 60/1; trees 30 60", "a b; a-b:60",
                          "error InvalidNet", "60"))
        self.assertEqual(shell.tell(line_of(SEVEN)), "ok")
        self.assertEqual(shell.tell("number a g"), "6")

    def test_twins(self):
        shell = Shell()
        shell.tell(line_of(PATH))
        twin = shell.live()
        twin.tie("a", "b")
        self.assertEqual((shell.tell("forests"), twin["forests"]), ("2", 3))
        shell.tell("add d")
        self.assertEqual((len(twin.net.places), shell.live().log), (3, ("add",)))


class TestRefusals(Refusals, unittest.TestCase):
    def test_lines(self):
        shell = Shell()
        shell.tell("net a")
        wrong = [(value, (ParseError, None)) for value in ODD_VALUES if type(value) is not str]
        self.check_refusals(shell.tell, [("line", "least", wrong)])
        wrong = [(value, (InvalidOperation, None)) for value in ODD_VALUES + (("least", None), ("add b", 1), ["least"], "least")
                 if type(value) is not tuple or not all(type(line) is str for line in value)]
        self.check_refusals(shell.tell_all, [("lines", (), wrong)])
        self.assertEqual((len(shell), shell.live().log), (1, ()))
        for value in ODD_VALUES:
            if type(value) is str:
                self.assertEqual(Shell().tell(value), "error ParseError")
        self.assertTrue(same(shell.tell_all(()), ()))
        self.assertEqual(raised(shell.tell_all, ("add b", None)), (InvalidOperation, None))
        with self.assertRaises(TypeError):
            iter(shell)


if __name__ == "__main__":
    unittest.main()
