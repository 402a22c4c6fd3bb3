"""Texts there and back, beside a second way of reading by patterns, also of texts with one sign changed."""

import fractions
import random
import re
import unittest

from holdsfast.base.nets import Net
from holdsfast.errors import InvalidNet, InvalidOperation, ParseError
from holdsfast.text.texts import KINDS, is_kind, is_text, read, write
from holdsfast.use.live import is_claim
from tests.helpers import (
    APART, CROWD, EXAMPLES, FULL, HUGE, ODD_VALUES, PATH, POINT, SEVEN, Refusals, changed_values, mixed_nets, raised, same,
    small_nets,
)

LONG = 999999999999
RIGHT = {
    "lot": [((), "-"), (("a",), "a"), (("a", "b", "z"), "a b z"), (("abcdefgh", "abcdefghi"[1:]), "abcdefgh bcdefghi")],
    "parting": [((), "-"), ((("a", "b"), ("c", "z")), "a b | c z"), ((("a",),), "a"), ((("a", "z"), ("b",), ("c",)), "a z | b | c")],
    "forest": [((), "-"), ((("a", "b"), ("b", "c")), "a-b b-c"), ((("a", "b"), ("a", "c"), ("b", "c")), "a-b a-c b-c")],
    "tree": [((), "-"), ((("a", "b", 2), ("b", "c", 1)), "a-b:2 b-c:1"), ((("a", "b", 0),), "a-b:0"),
             ((("a", "b", 0), ("a", "b", LONG)), f"a-b:0 a-b:{LONG}")],
    "join": [({}, "-"), ({("a", "b"): 1, ("c", "d"): 2}, "a-b:1 c-d:2"), ({("b", "c"): LONG, ("a", "z"): 10}, f"a-z:10 b-c:{LONG}")],
    "streets": [({}, "-"), ({("c", "b"): 2, ("a", "b"): 1}, "a>b:1 c>b:2"), ({("b", "a"): 1, ("a", "b"): LONG}, f"a>b:{LONG} b>a:1")],
    "net": [(PATH, "a b c\na-b:2\nb-c:1"), (POINT, "a"), (Net(("q", "b")), "b q"), (APART, "a b c d e\na-b:2\nc-e:1")],
    "claim": [(("number", "a", "b", 2), "number a b 2"), (("number", "z", "a", 0), "number z a 0"), (("least", 0), "least 0"),
              (("strength", (3, 2)), "strength 3/2"), (("crowding", (-1, 3)), "crowding -1/3"), (("trees", LONG), f"trees {LONG}"),
              (("forests", 12), "forests 12"), (("strength", (0, 1)), "strength 0/1"), (("strength", (-LONG, 1)), f"strength -{LONG}/1")],
}
WRONG = {
    "lot": ["", " ", "a  b", " a", "a ", "b a", "a a", "A", "a1", "abcdefghi", "- a", "a -", "--", "a,b", "a b\n", "a\tb", "0"],
    "parting": ["", "|", "a |", "| a", "a|b", "a | - ", "a | -", "- | a", "a | a", "b | a", "a b | b", "a  | b", "a |  b", "a | b |",
                "a |  | b", "b a | c", "- | -", "a | b\n"],
    "forest": ["", "a", "a-", "-b", "a-b-c", "b-a", "a-a", "a-b a-b", "b-c a-b", "a-b  b-c", "a-b ", "a -b", "a--b", "a-B", "- a-b",
               "a-b -", "a-b:1", "a>b"],
    "tree": ["", "a-b", "a-b:", "a-b:x", "a-b:01", "a-b:-1", "a-b:+1", "b-a:1", "a-a:1", "a-b:2 a-b:1", "a-b:1 a-b:1", "a-b:1000000000000",
             "a-b:1:1", "a:1", "a-b :1", "a-b: 1", "a-b:1  b-c:1", "b-c:1 a-b:1", "a>b:1", "a-b-c:1", "a-b:1.", "a-b:00", "a-b:-0"],
    "join": ["", "a-b:0", "a-b", "a-b:01", "a-b:-1", "b-a:1", "a-b:1 a-b:1", "a-b:1 a-b:2", "b-c:1 a-b:1", "a-b:1000000000000", "a>b:1",
             "a-b:1 ", "a-b:1  b-c:1", "a-a:1", "a-b:1 -", "a-b:1/1"],
    "streets": ["", "a>b:0", "a>b", "a-b:1", "a>a:1", "b>a:1 a>b:1", "a>b:1 a>b:1", "a>b:01", "a>b:1000000000000", "a>>b:1", "a>b>c:1",
                "a>B:1", "a>b:1  b>a:1", "a > b:1"],
    "claim": ["", "-", "least", "least ", "least  1", "least -1", "least 01", "least 1 1", "Least 1", "least 1/1", "least a", "number a b",
              "number a a 1", "number a b -1", "number a b c 1", "number a B 1", "number a b 1 ", "number a b 1/1", "strength 1",
              "strength 2/4", "strength 1/0", "strength 3/-2", "strength 3 / 2", "strength 3/2/1", "strength -0/1", "strength 03/2",
              "strength 1/1000000000000", "trees 1000000000000", "crowding", "crowding 1/", "crowding /1", "edges 1", "number 1", "forests -",
              "least 1\n", " least 1", "least\n1"],
}
# Texts of nets that cannot be read, with the error and the index of the line.
WRONG_NETS = {
    "": (ParseError, 0), "A": (ParseError, 0), "b a": (ParseError, 0), "a  b": (ParseError, 0), "a b\n": (ParseError, 1),
    "a b\na-c": (ParseError, 1), "a b\na-b:0": (ParseError, 1), "a b\nb-a:1": (ParseError, 1), "a b\na-b:01": (ParseError, 1),
    "a b c\na-b:1\na-b:1": (ParseError, 2), "a b c\nb-c:1\na-b:1": (ParseError, 2), "a b c\na-b:1 b-c:1": (ParseError, 1),
    "a b\n-": (ParseError, 1), "a b\n\na-b:1": (ParseError, 1), "a b\na-b:1\n": (ParseError, 2), "a a\na-b:x": (ParseError, 0),
    "a b\na-b:1000000000000": (ParseError, 1), "a-b:1": (ParseError, 0), "a b\na-b": (ParseError, 1), "\na b": (ParseError, 0),
    "a b c\na-b:1\nx\ny": (ParseError, 2), "a b c\na-b:x\na-b:1": (ParseError, 1), "a b\na-b:-1": (ParseError, 1),
    "a b\na>b:1": (ParseError, 1), "a b\n a-b:1": (ParseError, 1), "a b\na-b:1 ": (ParseError, 1), "a b\na-a:1": (ParseError, 1),
    "a b c d e f g h\na-b:0": (ParseError, 1), "-\nx": (ParseError, 1),
    "a b\na-c:1": (InvalidNet, None), "a b\na-b:31": (InvalidNet, None), "a b c d e f g h": (InvalidNet, None), "-": (InvalidNet, None),
    "a b\na-b:999999999999": (InvalidNet, None), "a b c\na-b:16\nb-c:15": (InvalidNet, None), "a b\nx-y:1": (InvalidNet, None),
}

PLACE, COUNT, MANY = "[a-z]{1,8}", "[1-9][0-9]{0,11}", "(?:0|[1-9][0-9]{0,11})"
LEVEL = f"(?:0|-?{COUNT})/{COUNT}"
PATTERNS = {
    "lot": f"{PLACE}( {PLACE})*", "parting": f"{PLACE}( {PLACE})*( \\| {PLACE}( {PLACE})*)*",
    "forest": f"{PLACE}-{PLACE}( {PLACE}-{PLACE})*", "tree": f"{PLACE}-{PLACE}:{MANY}( {PLACE}-{PLACE}:{MANY})*",
    "join": f"{PLACE}-{PLACE}:{COUNT}( {PLACE}-{PLACE}:{COUNT})*", "streets": f"{PLACE}>{PLACE}:{COUNT}( {PLACE}>{PLACE}:{COUNT})*",
    "claim": f"(least|trees|forests) {MANY}|number {PLACE} {PLACE} {MANY}|(strength|crowding) {LEVEL}",
}


def ascend(rows):
    return all(one < other for one, other in zip(rows, rows[1:]))


def is_right_line(kind, text):
    """Judge a text of one line by its pattern, and by what the pattern cannot see."""
    if text == "-":
        return kind != "claim"
    if not re.fullmatch(PATTERNS[kind], text):
        return False
    if kind == "claim":
        words = text.split(" ")
        if words[0] == "number":
            return words[1] != words[2]
        return "/" not in text or str(fractions.Fraction(words[1])) == (words[1][:-2] if words[1].endswith("/1") else words[1])
    if kind == "parting":
        rows = [tuple(part.split(" ")) for part in text.split(" | ")]
        places = [place for row in rows for place in row]
        return ascend(rows) and all(ascend(row) for row in rows) and len(places) == len(set(places))
    rows = [tuple(re.split("[-:>]", item)) for item in text.split(" ")]
    if kind in ("forest", "tree", "join") and not all(row[0] < row[1] for row in rows):
        return False
    if kind == "streets" and not all(row[0] != row[1] for row in rows):
        return False
    return ascend([row[:2] + tuple(int(many) for many in row[2:]) if kind == "tree" else row[:2] for row in rows])


def is_right_text(kind, text):
    if kind != "net":
        return is_right_line(kind, text)
    lines = text.split("\n")
    if not is_right_line("lot", lines[0]) or lines[0] == "-":
        return False
    if len(lines) > 1 and not is_right_line("join", " ".join(lines[1:])) or any(" " in line or line == "-" for line in lines[1:]):
        return False
    places = lines[0].split(" ")
    ends = [place for line in lines[1:] for place in line.split(":")[0].split("-")]
    return len(places) < 8 and set(ends) <= set(places) and sum(int(line.split(":")[1]) for line in lines[1:]) <= 30


def changed_texts(text):
    """Yield texts with one sign left out, put in or changed."""
    for at in range(len(text) + 1):
        yield text[:at] + text[at + 1:]
        for sign in "abz019-:>|/ \nA.,+":
            yield text[:at] + sign + text[at:]
            yield text[:at] + sign + text[at + 1:]


class TestThereAndBack(unittest.TestCase):
    def test_told_texts(self):
        for kind, rows in RIGHT.items():
            for value, text in rows:
                self.assertTrue(same(write(kind, value), text), (kind, value))
                found = read(kind, text)
                self.assertTrue(found == value and (kind == "net" or type(found) is type(value)), (kind, text, found))
                self.assertIs(is_text(kind, text), True)
                if isinstance(value, dict):
                    self.assertEqual(write(kind, dict(list(value.items())[::-1])), text)
                    self.assertEqual(list(found), sorted(value))
        self.assertEqual(sorted(RIGHT), list(KINDS))
        self.assertEqual(KINDS, ("claim", "forest", "join", "lot", "net", "parting", "streets", "tree"))

    def test_nets(self):
        for net in EXAMPLES + tuple(small_nets()) + tuple(mixed_nets(40, 220)):
            text = write("net", net)
            lines = [" ".join(net.places)] + [f"{one}-{other}:{many}" for (one, other), many in net.ties.items()]
            self.assertEqual(text, "\n".join(lines))
            self.assertIs(is_text("net", text), net.size <= 30)
            if net.size <= 30:
                self.assertEqual(read("net", text), net)
                self.assertEqual(write("net", read("net", text)), text)
            else:
                self.assertEqual(raised(read, "net", text), (InvalidNet, None))

    def test_mixed_values(self):
        numbers = random.Random(221)
        words = ["a", "b", "c", "dd", "zz", "abcdefgh"]
        for _ in range(300):
            pairs = [tuple(sorted(numbers.sample(words, 2))) for _ in range(numbers.randrange(5))]
            counts = [numbers.choice((1, 2, 10, LONG)) for _ in pairs]
            values = {
                "lot": tuple(sorted(numbers.sample(words, numbers.randrange(6)))), "forest": tuple(sorted(set(pairs))),
                "tree": tuple(sorted({pair + (many - 1,) for pair, many in zip(pairs, counts)})),
                "join": dict(zip(pairs, counts)), "streets": {pair[::numbers.choice((1, -1))]: n for pair, n in zip(pairs, counts)},
                "parting": tuple(sorted(tuple(sorted(words[at::3])) for at in range(numbers.randrange(4)))),
                "claim": numbers.choice((("number", *numbers.sample(words, 2), numbers.randrange(12)), ("least", numbers.randrange(120)),
                                         ("crowding", fractions.Fraction(numbers.randrange(-9, 9), numbers.randrange(1, 9))))),
            }
            if values["claim"][0] == "crowding":
                level = values["claim"][1]
                values["claim"] = ("crowding", (level.numerator, level.denominator))
            for kind, value in values.items():
                text = write(kind, value)
                self.assertTrue(is_right_text(kind, text), (kind, value, text))
                self.assertTrue(read(kind, text) == value and write(kind, read(kind, text)) == text)

    def test_one_sign_changed(self):
        for kind, rows in RIGHT.items():
            for _, start in rows:
                for text in changed_texts(start):
                    right = is_right_text(kind, text)
                    self.assertIs(is_text(kind, text), right, (kind, text))
                    if right:
                        self.assertEqual(write(kind, read(kind, text)), text)
                    elif kind != "net":
                        line, *more = text.split("\n")
                        at = 1 if more and is_right_text(kind, line) else 0
                        self.assertEqual(raised(read, kind, text), (ParseError, at), (kind, text))

    def test_texts_of_other_kinds(self):
        for kind in KINDS:
            for rows in RIGHT.values():
                for _, text in rows:
                    self.assertIs(is_text(kind, text), is_right_text(kind, text), (kind, text))


class TestWrong(Refusals, unittest.TestCase):
    def test_wrong_texts(self):
        for kind, texts in WRONG.items():
            for text in texts:
                self.assertIs(is_text(kind, text), False, (kind, text))
                at = 1 if "\n" in text and is_text(kind, text.split("\n")[0]) else 0
                self.assertEqual(raised(read, kind, text), (ParseError, at), (kind, text))
        self.assertEqual(raised(read, "lot", "a b\nc d\n"), (ParseError, 1))
        self.assertEqual(raised(read, "lot", "b a\nc d"), (ParseError, 0))

    def test_wrong_nets(self):
        for text, error in WRONG_NETS.items():
            self.assertEqual(raised(read, "net", text), error, text)
            self.assertIs(is_text("net", text), False)

    def test_lines_of_nets_with_one_sign_changed(self):
        for text in changed_texts("a b c\na-b:2\nb-c:1"):
            lines = text.split("\n")
            at = 0 if not is_right_line("lot", lines[0]) else None
            for index in range(1, len(lines) if at is None else 0):
                good = is_right_line("join", lines[index]) and " " not in lines[index] and lines[index] != "-"
                good = good and (index == 1 or is_right_line("join", " ".join(lines[index - 1:index + 1])))
                if not good:
                    at = index
                    break
            if at is not None:
                self.assertEqual(raised(read, "net", text), (ParseError, at), text)
            elif not is_right_text("net", text):
                self.assertEqual(raised(read, "net", text), (InvalidNet, None), text)

    def test_wrong_values(self):
        wrong = {
            "lot": [("b", "a"), ("a", "a"), ["a"], ("A",), (1,), "a", None, {}, ("a", None)],
            "parting": [((),), (("a",), ("a",)), (("b",), ("a",)), (("b", "a"),), [("a",)], (["a"],), ("a",), (("a", "b"), ("b", "c"))],
            "forest": [(("b", "a"),), (("a", "b"), ("a", "b")), (("b", "c"), ("a", "b")), (("a", "b", "c"),), (("a",),), [("a", "b")]],
            "tree": [(("a", "b"),), (("a", "b", -1),), (("a", "b", True),), (("b", "a", 1),), (("a", "b", 1), ("a", "b", 1)),
                     (("a", "b", LONG + 1),), (("a", "b", "1"),), (("b", "c", 1), ("a", "b", 2))],
            "join": [{("a", "b"): 0}, {("a", "b"): True}, {("b", "a"): 1}, {("a", "a"): 1}, {"ab": 1}, {("a", "b"): LONG + 1},
                     (("a", "b", 1),), {("a", "b"): None}, {("a", "b", "c"): 1}, None],
            "streets": [{("a", "a"): 1}, {("a", "b"): 0}, {("a", "b"): True}, {("a",): 1}, {("a", "B"): 1}, {("a", "b"): LONG + 1}, ()],
            "net": [None, (), "a", {"a": 1}],
            "claim": [("least", LONG + 1), ("strength", (LONG + 1, 1)), ("strength", (1, LONG + 1)), ("strength", (-LONG - 1, 1)),
                      ("number", "a", "b", HUGE), ("least", True), ("least",), None, "least 1"],
        }
        for kind, values in wrong.items():
            for value in values + [value for value in ODD_VALUES if not is_right_value(kind, value)]:
                self.assertEqual(raised(write, kind, value), (InvalidOperation, None), (kind, value))

    def test_one_thing_changed(self):
        for kind, rows in RIGHT.items():
            for start, _ in rows if kind != "net" else ():
                for value in changed_values(start):
                    if is_right_value(kind, value):
                        self.assertEqual(read(kind, write(kind, value)), value)
                    else:
                        self.assertEqual(raised(write, kind, value), (InvalidOperation, None), (kind, value))

    def test_kinds(self):
        for value in ODD_VALUES + ("Net", "nets", "net ", ("net",)):
            self.assertIs(is_kind(value), False)
        wrong = [(value, (InvalidOperation, None)) for value in ODD_VALUES + ("Net", "claims")]
        for kind in KINDS:
            self.assertIs(is_kind(kind), True)
        self.check_refusals(write, [("kind", "lot", wrong), ("value", (), [(None, (InvalidOperation, None))])])
        texts = [(value, (ParseError, None)) for value in ODD_VALUES if not isinstance(value, str)]
        self.check_refusals(read, [("kind", "net", wrong), ("text", "a", texts)])
        for value in ("a", None):
            self.check_refusals(lambda kind: is_text(kind, value), [("kind", "lot", wrong)])

    def test_judges_take_every_value(self):
        for kind in KINDS:
            right = [value for value in ODD_VALUES if type(value) is str and is_right_text(kind, value)]
            self.check_judge(is_text, kind, right=right)

    def test_big_nets(self):
        self.assertEqual(write("net", SEVEN).count("\n"), 21)
        self.assertEqual(len(write("net", CROWD).split("\n")), 16)
        self.assertIs(is_text("net", write("net", FULL.times(6))), False)
        self.assertIs(is_text("net", write("net", FULL.times(5))), True)


def is_right_value(kind, value):
    """Judge a value by trying whether its text, put together without a look at it, is one of its kind and tells it."""
    if kind == "net":
        return type(value) is Net
    if kind == "claim":
        return is_claim(value) and is_right_text(kind, plain_text(kind, value))
    if type(value) is not (dict if kind in ("join", "streets") else tuple):
        return False
    try:
        text = plain_text(kind, value)
    except (TypeError, ValueError, LookupError):
        return False
    return all_plain(value) and is_right_text(kind, text)


def all_plain(value):
    """Tell whether a value has only tuples, strings and integers inside, and no empty tuples."""
    rows = list(value.items()) if type(value) is dict else value
    for item in rows:
        if type(item) is tuple:
            if not item or not all_plain(item):
                return False
        elif type(item) not in (str, int):
            return False
    return True


def plain_text(kind, value):
    if kind == "claim":
        last = "/".join(str(many) for many in value[-1]) if type(value[-1]) is tuple else str(value[-1])
        return " ".join(value[:-1] + (last,))
    if not value:
        return "-"
    if kind == "lot":
        return " ".join(value)
    if kind == "parting":
        if not all(type(part) is tuple for part in value):
            raise TypeError
        return " | ".join(" ".join(part) for part in value)
    sign = ">" if kind == "streets" else "-"
    if kind == "forest":
        rows = [(pair, None) for pair in value]
    elif kind == "tree":
        rows = [(triple[:2], triple[2:]) for triple in value]
    else:
        rows = [(pair, (value[pair],)) for pair in sorted(value)]
    texts = []
    for pair, more in rows:
        if type(pair) is not tuple or more is not None and (len(more) != 1 or type(more[0]) is not int):
            raise TypeError
        one, other = pair
        texts.append(f"{one}{sign}{other}" + ("" if more is None else f":{more[0]}"))
    return " ".join(texts)


if __name__ == "__main__":
    unittest.main()
