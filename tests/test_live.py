"""Live nets, beside nets that are made anew at each step, and facts that are counted over all lots and partings."""

import fractions
import random
import unittest

from holdsfast.base.nets import Net
from holdsfast.errors import (
    InvalidLot, InvalidNet, InvalidNumber, InvalidOperation, NothingToUndo, Refused, UnknownPlace,
)
from holdsfast.use.live import WORDS, Live, does_hold, facts, is_claim
from tests.helpers import (
    APART, CROWD, EXAMPLES, FULL, HUB, HUGE, ODD_VALUES, PATH, POINT, RING, SEVEN, TWO, Refusals, all_partings_of,
    all_subsets, changed_values, count_across, count_cut, count_inside, counting_lots, find_numbers, mixed_nets, raised,
    same, small_nets, wrong_nets,
)
from tests.test_packed import SIXTY

BARE = Net(("a", "b", "c"))
NETS = EXAMPLES + tuple(small_nets()[::4]) + tuple(mixed_nets(25, 210)) + (BARE, SIXTY)
CLAIMS = (
    ("least", 0), ("least", 1), ("least", 2), ("least", HUGE), ("trees", 0), ("trees", 1), ("trees", 2), ("forests", 0),
    ("forests", 1), ("forests", 2), ("forests", 3), ("strength", (1, 1)), ("strength", (4, 3)), ("strength", (-1, 2)),
    ("strength", (2, 1)), ("crowding", (2, 1)), ("crowding", (4, 3)), ("crowding", (0, 1)), ("crowding", (-3, 1)),
    ("number", "a", "b", 1), ("number", "b", "a", 2), ("number", "a", "c", 0), ("number", "a", "q", 0),
    ("number", "q", "r", 0), ("number", "b", "d", 2), ("crowding", (HUGE, 1)), ("strength", (1, HUGE)),
)
WRONG_CLAIMS = (
    ("least", -1), ("least", True), ("least", "1"), ("least", (1, 1)), ("least", 1, 1), ("least",), ["least", 1], "least",
    ("number", "a", "b"), ("number", "a", "a", 1), ("number", "a", "B", 1), ("number", "a", "b", -1), ("number", "a", "b", True),
    ("number", 1, "b", 1), ("number", "a", None, 1), ("number", "a", "b", 1, 1), ("number", 1), ("strength", 1),
    ("strength", (2, 4)), ("strength", (1, 0)), ("strength", (True, 1)), ("strength", [1, 1]), ("crowding", (4, 2)),
    ("crowding", (1, 1), 1), ("crowding", None), ("trees", None), ("forests", (1, 1)), ("many", 1), (None, 1), ((), 1), ("", 1),
    (["least"], 1), ({}, 1), (PATH, 1), ("number", "abcdefghi", "a", 1), ("number", "", "a", 1), ("Least", 1),
)


def as_pair(number):
    return (number.numerator, number.denominator)


def count_facts(net):
    """Count the facts over all lots and all partings."""
    if len(net.places) == 1:
        return {"crowding": None, "forests": 0, "least": None, "strength": None, "trees": None}
    insides = {lot: count_inside(net, lot) for lot in all_subsets(net.places) if len(lot) > 1}
    acrosses = {parting: count_across(net, parting) for parting in all_partings_of(net.places) if len(parting) > 1}
    crowding = max(fractions.Fraction(many, len(lot) - 1) for lot, many in insides.items())
    strength = min(fractions.Fraction(many, len(parting) - 1) for parting, many in acrosses.items())
    least = min(count_cut(net, lot) for lot in counting_lots(net))
    forests = max(-(-many // (len(lot) - 1)) for lot, many in insides.items())
    return {"crowding": as_pair(crowding), "forests": forests, "least": least, "strength": as_pair(strength),
            "trees": strength.numerator // strength.denominator}


def holds(net, claim, known):
    """Judge a claim by counted facts."""
    word, told = claim[0], claim[-1]
    if word == "number":
        ends = tuple(sorted(claim[1:3]))
        return set(ends) <= set(net.places) and find_numbers(net)[ends] >= told
    if len(net.places) == 1:
        return True
    if word in ("strength", "crowding"):
        both = fractions.Fraction(*known[word]), fractions.Fraction(*told)
        return both[0] >= both[1] if word == "strength" else both[0] <= both[1]
    return known[word] <= told if word == "forests" else known[word] >= told


def news_of(before, now):
    return tuple((word, before[word], now[word]) for word in sorted(before) if before[word] != now[word])


class TestFacts(unittest.TestCase):
    def test_facts_and_claims(self):
        for net in NETS:
            known = count_facts(net)
            self.assertTrue(same(facts(net), known), (net.ties, known))
            for claim in CLAIMS:
                self.assertIs(does_hold(net, claim), holds(net, claim, known), (net.ties, claim))
        self.assertEqual(WORDS, ("crowding", "forests", "least", "strength", "trees"))

    def test_one_place(self):
        self.assertEqual(facts(POINT), {"crowding": None, "forests": 0, "least": None, "strength": None, "trees": None})
        for claim in CLAIMS:
            self.assertIs(does_hold(POINT, claim), claim[0] != "number")
        self.assertIs(does_hold(Net(("q",)), ("number", "q", "r", 0)), False)

    def test_claims(self):
        for claim in CLAIMS:
            self.assertIs(is_claim(claim), True, claim)
        for value in WRONG_CLAIMS + ODD_VALUES:
            self.assertIs(is_claim(value), False, value)
        for claim in CLAIMS:
            for value in changed_values(claim):
                if is_claim(value):
                    self.assertTrue(type(value) is tuple and value[0] in WORDS + ("number",) and len(value) in (2, 4), value)

    def test_changed_claims(self):
        right = [value for value in changed_values(("number", "a", "b", 2)) if is_claim(value)]
        self.assertEqual({value[3] for value in right}, {1, 2, 3, HUGE})
        self.assertTrue(all(value[1] != value[2] for value in right))
        for word in ("strength", "crowding"):
            right = [value[1] for value in changed_values((word, (3, 2))) if is_claim(value)]
            self.assertTrue(all(as_pair(fractions.Fraction(*level)) == level for level in right))
            self.assertTrue({(-3, 2), (3, 1), (2, 3)} <= set(right))


def model_facts(net, known={}):
    """Count the facts once for each net."""
    key = (net.places, tuple(net.ties.items()))
    if key not in known:
        known[key] = count_facts(net)
    return known[key]


class Model:
    """A live net as a plain list of states, each (name, net, pins)."""

    def __init__(self, net):
        self.states, self.at = [("", net, ())], 0

    def change(self, word, net, pins):
        before = self.states[self.at][1]
        for claim in pins:
            if not holds(net, claim, model_facts(net)):
                return (Refused, claim)
        self.states = self.states[:self.at + 1] + [(word, net, pins)]
        self.at += 1
        return news_of(model_facts(before), model_facts(net))

    def go(self, at):
        before, self.at = self.states[self.at][1], at
        return news_of(model_facts(before), model_facts(self.states[at][1]))

    def check(self, test, live):
        _, net, pins = self.states[self.at]
        test.assertEqual((live.net, live.pins, list(live)), (net, pins, list(pins)))
        test.assertEqual(live.log, tuple(word for word, _, _ in self.states[1:self.at + 1]))
        known = model_facts(net)
        test.assertTrue(same({word: live[word] for word in WORDS}, known))
        test.assertEqual((len(live), str(live)), (net.size, f"net of {len(net.places)} places, {net.size} ties; {len(pins)} pins"))
        test.assertTrue(all(holds(net, claim, known) for claim in pins))
        test.assertEqual(raised(live.redo, many=len(self.states) - self.at), (NothingToUndo, len(self.states) - self.at))
        test.assertEqual(raised(live.undo, many=self.at + 1), (NothingToUndo, self.at + 1))


def some_change(net, numbers):
    """Return the name of a change, its arguments, the method of the net, and its name, as random numbers tell."""
    places = list(net.places) + ["q"]
    kind = numbers.choice(("tie", "tie", "tie", "untie", "untie", "add", "remove", "shrink", "rename"))
    if kind in ("tie", "untie"):
        return kind, (*numbers.sample(places, 2), numbers.choice((1, 1, 2, 9))), {"tie": "joined", "untie": "untied"}[kind]
    if kind in ("add", "remove"):
        return kind, (numbers.choice(places + ["x", "Y"]),), {"add": "with_place", "remove": "without_place"}[kind]
    if kind == "shrink":
        lot = tuple(sorted(numbers.sample(places, numbers.choice((1, 2, 2, 3)) if len(places) > 3 else 1)))
        return kind, (lot, numbers.choice(places)), "shrunk"
    return kind, (dict(zip(net.places, numbers.sample(list("abcdefgh"), len(net.places)))),), "renamed"


class TestHistories(unittest.TestCase):
    def test_histories(self):
        numbers = random.Random(211)
        for net in (PATH, RING, HUB, POINT, TWO, APART, BARE, FULL) + tuple(mixed_nets(8, 212)):
            live, model = Live(net), Model(net)
            for _ in range(40):
                self.step(live, model, numbers)
                model.check(self, live)

    def step(self, live, model, numbers):
        _, net, pins = model.states[model.at]
        kind = numbers.randrange(10)
        if kind < 5:
            word, given, method = some_change(net, numbers)
            error = raised(getattr(net, method), *given)
            if error is None:
                expected = model.change(word, getattr(net, method)(*given), pins)
                error = expected if expected[:1] == (Refused,) else None
            self.check_call(getattr(live, word), given, {}, error, None if error else expected)
        elif kind < 7:
            self.pin(live, model, numbers.choice(CLAIMS), net, pins)
        elif kind < 8:
            claim = numbers.choice(pins or CLAIMS)
            error = None if claim in pins else (InvalidOperation, None)
            news = None if error else model.change("unpin", net, tuple(other for other in pins if other != claim))
            self.check_call(live.unpin, (claim,), {}, error, news)
        elif kind < 9:
            many = numbers.randrange(model.at + 1)
            self.check_call(live.undo, (), {"many": many}, None, model.go(model.at - many))
        else:
            many = numbers.randrange(len(model.states) - model.at)
            self.check_call(live.redo, (), {"many": many}, None, model.go(model.at + many))

    def pin(self, live, model, claim, net, pins):
        if claim in pins:
            error = (InvalidOperation, None)
        else:
            error = None if holds(net, claim, model_facts(net)) else (Refused, claim)
        news = None if error else model.change("pin", net, pins + (claim,))
        self.check_call(live.pin, (claim,), {}, error, news)

    def check_call(self, call, given, named, error, news):
        if error is not None:
            self.assertEqual(raised(call, *given, **named), error, (call, given))
        else:
            self.assertTrue(same(call(*given, **named), news), (call, given, news))

    def test_blocks_and_twins(self):
        numbers = random.Random(213)
        for net in (PATH, RING, HUB, TWO, APART, POINT) + tuple(mixed_nets(4, 214)):
            live, model = Live(net), Model(net)
            for _ in range(8):
                self.step(live, model, numbers)
            twin, kept = live.twin(), (list(model.states), model.at)
            with live.attempt() as same_one:
                self.assertIs(same_one, live)
                for _ in range(4):
                    self.step(live, model, numbers)
                inner = (list(model.states), model.at)
                with live.attempt():
                    for _ in range(4):
                        self.step(live, model, numbers)
                model.states, model.at = list(inner[0]), inner[1]
                model.check(self, live)
                self.step(live, model, numbers)
            model.states, model.at = list(kept[0]), kept[1]
            model.check(self, live)
            self.assertTrue(live == twin)
            for _ in range(6):
                self.step(live, model, numbers)
            model.states, model.at = kept
            model.check(self, twin)


class TestLive(unittest.TestCase):
    def test_all_changes(self):
        live = Live(PATH)
        calls = ((live.tie, ("a", "c")), (live.untie, ("a", "b")), (live.add, ("d",)), (live.remove, ("d",)),
                 (live.shrink, (("a",), "a")), (live.rename, ({"a": "a", "b": "b", "c": "c"},)), (live.pin, (("least", 2),)),
                 (live.unpin, (("least", 2),)))
        nets = [live.net]
        for call, given in calls:
            call(*given)
            nets.append(live.net)
        self.assertEqual(live.log, ("tie", "untie", "add", "remove", "shrink", "rename", "pin", "unpin"))
        for at in range(8, 0, -1):
            self.assertEqual(live.net, nets[at])
            live.undo()
        self.assertEqual((live.net, live.log), (PATH, ()))
        self.assertEqual((live.redo(many=8), live.net, live.pins), ((("crowding", (2, 1), (3, 2)), ("least", 1, 2),
                                                                     ("strength", (1, 1), (3, 2))), nets[-1], ()))

    def test_changes_that_change_nothing(self):
        live = Live(RING)
        self.assertEqual(live.rename({place: place for place in "abcd"}), ())
        self.assertEqual(live.shrink(("a",), "a"), ())
        self.assertEqual((live.log, live.net), (("rename", "shrink"), RING))
        self.assertEqual((live.undo(many=0), live.redo(many=0), live.log), ((), (), ("rename", "shrink")))
        self.assertEqual((live.undo(), live.log), ((), ("rename",)))
        # A change behind which all is equal is a change: what was taken back is not done again.
        live.rename({place: place for place in "abcd"})
        self.assertEqual(raised(live.redo), (NothingToUndo, 1))

    def test_undo_of_none_keeps_what_can_be_done_again(self):
        live = Live(TWO)
        live.tie("a", "b")
        live.undo()
        self.assertEqual((live.undo(many=0), live.redo(many=0)), ((), ()))
        self.assertEqual(raised(live.untie, "a", "b", 4), (InvalidNumber, 4))
        self.assertEqual(raised(live.pin, ("least", 4)), (Refused, ("least", 4)))
        self.assertEqual(live.redo()[0], ("crowding", (3, 1), (4, 1)))
        self.assertEqual(len(live), 4)

    def test_news_of_several_changes(self):
        live = Live(PATH)
        live.tie("b", "c")
        live.tie("b", "c")
        live.untie("b", "c", 2)
        self.assertEqual((live.undo(many=3), live.redo(many=3)), ((), ()))
        self.assertEqual(live.undo(many=2), (("least", 1, 2), ("strength", (1, 1), (2, 1)), ("trees", 1, 2)))

    def test_the_first_pinned_claim_is_told(self):
        live = Live(FULL)
        for claim in (("crowding", (2, 1)), ("trees", 2), ("least", 3), ("number", "a", "b", 3)):
            self.assertEqual(live.pin(claim), ())
        self.assertEqual(raised(live.untie, "a", "b"), (Refused, ("trees", 2)))
        live.unpin(("trees", 2))
        self.assertEqual(raised(live.untie, "a", "b"), (Refused, ("least", 3)))
        live.pin(("trees", 2))
        self.assertEqual(raised(live.untie, "a", "b"), (Refused, ("least", 3)))
        self.assertEqual(raised(live.tie, "a", "b"), (Refused, ("crowding", (2, 1))))
        self.assertEqual(raised(live.rename, {"a": "q", "b": "b", "c": "c", "d": "d"}), (Refused, ("number", "a", "b", 3)))
        self.assertEqual(live.rename({"a": "b", "b": "a", "c": "c", "d": "d"}), ())
        self.assertEqual(live.pins, (("crowding", (2, 1)), ("least", 3), ("number", "a", "b", 3), ("trees", 2)))

    def test_errors_of_the_net_come_first(self):
        live = Live(FULL)
        live.pin(("number", "a", "b", 3))
        self.assertEqual(raised(live.remove, "q"), (UnknownPlace, "q"))
        self.assertEqual(raised(live.remove, "a"), (Refused, ("number", "a", "b", 3)))
        self.assertEqual(raised(live.untie, "a", "b", 2), (InvalidNumber, 2))
        self.assertEqual(raised(live.untie, "a", "b"), (Refused, ("number", "a", "b", 3)))
        self.assertEqual(raised(live.shrink, ("a", "b"), "c"), (InvalidNet, None))
        self.assertEqual(raised(live.shrink, ("b", "a"), "c"), (InvalidLot, None))
        self.assertEqual(raised(live.shrink, ("a", "b"), "a"), (Refused, ("number", "a", "b", 3)))
        self.assertEqual(raised(live.rename, {}), (InvalidOperation, None))
        self.assertEqual(raised(live.add, "a"), (InvalidNet, None))
        self.assertEqual(raised(live.tie, "a", "b", 99), (InvalidNet, None))
        self.assertEqual(raised(live.tie, "a", "a"), (InvalidOperation, None))
        self.assertEqual((live.net, live.log), (FULL, ("pin",)))

    def test_blocks(self):
        live = Live(PATH)
        live.tie("b", "c")
        live.tie("a", "c")
        live.undo()
        with self.assertRaises(ZeroDivisionError):
            with live.attempt() as same_one:
                same_one.remove("c")
                same_one.undo(many=2)
                raise ZeroDivisionError
        self.assertEqual((live.log, len(live)), (("tie",), 4))
        self.assertEqual(live.redo(), (("forests", 2, 3), ("crowding", (2, 1), (5, 2)))[::-1] + (("least", 2, 3),
                                                                                             ("strength", (2, 1), (5, 2))))
        block = live.attempt()
        live.untie("a", "c")
        with block:
            live.add("z")
            with block:
                live.add("y")
            self.assertEqual(live.net.places, ("a", "b", "c", "z"))
        self.assertEqual((live.net.places, live.log), (("a", "b", "c"), ("tie", "tie", "untie")))
        with block:
            live.undo(many=3)
        self.assertEqual(live.log, ("tie", "tie", "untie"))
        # To ask for a block alone, and a twin that is made inside of one, change nothing.
        live.attempt()
        with live.attempt():
            live.add("x")
            twin = live.twin()
            with twin.attempt():
                twin.add("y")
            self.assertEqual((twin.log, twin == live), (("tie", "tie", "untie", "add"), True))
        twin.remove("x")
        self.assertEqual((live.log, twin.log[-1]), (("tie", "tie", "untie"), "remove"))

    def test_during(self):
        live = Live(PATH)
        self.assertEqual(live.during(lambda same_one: (same_one is live, same_one.tie("a", "c"), len(same_one))[::2]), (True, 4))
        self.assertEqual((len(live), live.log), (3, ()))
        self.assertEqual(raised(live.during, lambda same_one: same_one.remove("q")), (UnknownPlace, "q"))
        self.assertIsNone(live.during(lambda same_one: None))
        twin = live.during(lambda same_one: (same_one.tie("a", "c"), same_one.twin())[1])
        self.assertEqual((len(live), len(twin), twin.log), (3, 4, ("tie",)))

    def test_equality_and_places(self):
        live, other = Live(PATH), Live(PATH)
        self.assertTrue(live == other and not live != other)
        self.assertFalse(live == Live(RING))
        live.tie("a", "c")
        live.untie("a", "c")
        self.assertTrue(live == other)
        live.pin(("least", 1))
        live.pin(("trees", 1))
        self.assertFalse(live == other)
        other.pin(("trees", 1))
        other.pin(("least", 1))
        self.assertFalse(live == other)
        other.unpin(("trees", 1))
        other.pin(("trees", 1))
        self.assertTrue(live == other)
        for value in ODD_VALUES + (PATH,):
            self.assertIs(live == value, False)
            self.assertIs(live != value, True)
            self.assertIs(value in live, value in ("a", "b", "c") if type(value) is str else False)

    def test_words(self):
        live = Live(RING)
        self.assertEqual([live[word] for word in WORDS], [(4, 3), 2, 2, (4, 3), 1])
        for value in ODD_VALUES + ("Least", "number", "ties"):
            self.assertEqual(raised(lambda: live[value]), (InvalidOperation, None), value)
        self.assertEqual([Live(POINT)[word] for word in WORDS], [None, 0, None, None, None])

    def test_iteration_goes_over_the_pins_as_they_were(self):
        live = Live(FULL)
        live.pin(("least", 1))
        live.pin(("trees", 1))
        found = []
        for claim in live:
            found.append(claim)
            live.unpin(claim)
        self.assertEqual((found, live.pins), ([("least", 1), ("trees", 1)], ()))

    def test_nothing_gives_access(self):
        live = Live(PATH)
        live.net.ties.clear()
        known = facts(live.net)
        known.clear()
        self.assertEqual((live.net, live["least"], facts(PATH)["least"]), (PATH, 1, 1))
        names = {"a": "x", "b": "y", "c": "z"}
        live.rename(names)
        names.clear()
        self.assertEqual(live.net.places, ("x", "y", "z"))

    def test_big_nets(self):
        for net in (SEVEN, SIXTY, CROWD):
            live = Live(net)
            live.pin(("least", live["least"]))
            self.assertEqual(raised(live.untie, *net.pairs[0])[0] if net != SIXTY else Refused, Refused)
            live.unpin(("least", live["least"]))
            live.shrink(net.places[:3], "a")
            live.undo(many=3)
            self.assertEqual(live.net, net)


class TestRefusals(Refusals, unittest.TestCase):
    def claims(self):
        return [("claim", ("least", 1), [(value, (InvalidOperation, None)) for value in ODD_VALUES + WRONG_CLAIMS])]

    def test_functions(self):
        self.check_refusals(facts, [("net", PATH, wrong_nets())])
        self.check_refusals(Live, [("net", PATH, wrong_nets())])
        self.check_refusals(does_hold, [("net", PATH, wrong_nets())] + self.claims())

    def test_pins(self):
        live = Live(PATH)
        self.check_refusals(live.pin, self.claims())
        self.check_refusals(live.unpin, self.claims())
        self.assertEqual(raised(live.pin, ("least", 2)), (Refused, ("least", 2)))
        self.assertEqual(raised(live.unpin, ("least", 1)), (InvalidOperation, None))
        live.pin(("least", 1))
        self.assertEqual(raised(live.pin, ("least", 1)), (InvalidOperation, None))
        self.assertEqual(raised(live.unpin, ("least", True)), (InvalidOperation, None))
        self.assertEqual((live.log, live.pins), (("pin",), (("least", 1),)))
        live.undo()
        self.assertEqual(raised(live.unpin, ("least", 1)), (InvalidOperation, None))
        live.redo()
        self.assertEqual((live.unpin(("least", 1)), live.pins), ((), ()))

    def test_steps(self):
        live = Live(PATH)
        live.tie("a", "c")
        live.tie("a", "c")
        live.undo()
        for call in (live.undo, live.redo):
            wrong = [(value, (InvalidNumber, value)) for value in ODD_VALUES if type(value) is not int or value < 0]
            wrong += [(value, (NothingToUndo, value)) for value in (2, HUGE)]
            self.check_refusals(call, [("many", 1, wrong)], named=("many",))
            self.assertTrue(same(raised(call, many=True)[1], True))
            with self.assertRaises(TypeError):
                call(1)
        self.assertEqual((live.log, len(live)), (("tie",), 4))

    def test_arguments_of_changes(self):
        live = Live(PATH)
        unknown = [(value, (UnknownPlace, value)) for value in ODD_VALUES if value not in ("a", "b")]
        ends = [("one", "b", unknown), ("other", "a", unknown + [("b", (InvalidOperation, None))])]
        numbers = [(value, (InvalidNumber, value)) for value in ODD_VALUES if type(value) is not int or value < 1]
        self.check_refusals(live.tie, ends + [("many", 1, numbers)])
        self.check_refusals(live.untie, ends + [("many", 1, numbers + [(3, (InvalidNumber, 3))])])
        words = ("", "A", "a b", "a1", "a\n", "abcdefghi", None, 1, True, ("d",), "a", "b", "c")
        self.check_refusals(live.add, [("place", "d", [(value, (InvalidNet, None)) for value in words])])
        self.check_refusals(live.remove, [("place", "a", unknown)])
        self.assertEqual(raised(Live(POINT).remove, "a"), (InvalidNet, None))
        self.assertEqual(raised(Live(SEVEN).add, "z"), (InvalidNet, None))
        self.assertEqual((live.log, live.net), ((), PATH))


if __name__ == "__main__":
    unittest.main()
