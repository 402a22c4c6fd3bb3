"""Ties led past a place, beside a second way of counting over all lots and all ways of pairing the ties."""

import itertools
import random
import unittest

from holdsfast.base.nets import Net
from holdsfast.errors import InvalidNet, InvalidOperation, UnknownPlace
from holdsfast.past.pairs import (
    is_past_paper, is_whole_row, keeping_pairs, led_past, pairs_at, past_paper, pinched, whole_row,
)
from holdsfast.ways.trees import cut_tree
from tests.helpers import (
    APART, CROWD, EXAMPLES, FULL, HUB, ODD_VALUES, PATH, POINT, RING, SEVEN, TWO, Refusals, all_subsets, changed_values,
    count_cut, find_numbers, is_plain_lot, is_plain_tree_form, mixed_nets, raised, same, small_nets, tie_list, wrong_nets,
)
from tests.test_trees import is_right_tree

BARE = Net(("a", "b", "c"))
FEW = tuple(small_nets()[::2]) + tuple(mixed_nets(30, 160)) + (RING, FULL, HUB, PATH, POINT, TWO, APART)


def from_ties(places, ties):
    """Make a net by one tie more again and again, so that it may have sixty."""
    net = Net(places)
    for one, other in ties:
        net = net.joined(one, other)
    return net


def plain_led(net, place, pair):
    """Take one tie off for each place of a pair, and put one between both in if they differ."""
    ties = tie_list(net)
    for end in pair:
        ties.remove(tuple(sorted((place, end))))
    return from_ties(net.places, ties + ([tuple(pair)] if pair[0] != pair[1] else []))


def plain_pairs(net, place):
    ends = [one if other == place else other for one, other in tie_list(net) if place in (one, other)]
    return sorted({tuple(sorted(two)) for two in itertools.combinations(ends, 2)})


def beside(net, place):
    return {pair: many for pair, many in find_numbers(net).items() if place not in pair}


def paired_rows(net, place):
    """Find all rows, each with its pairs ascending, by all ways of pairing the ties of the place."""
    ends = sorted(one if other == place else other for one, other in tie_list(net) if place in (one, other))
    return sorted({tuple(sorted(row)) for row in ways_of_pairing(ends)}) if len(ends) % 2 == 0 else []


def whole_ones(net, place, rows):
    """Return those rows behind which all numbers of other places are as at first."""
    told = beside(net, place)
    found = []
    for row in rows:
        behind = net
        for pair in row:
            behind = plain_led(behind, place, pair)
        if beside(behind, place) == told:
            found.append(row)
    return found


def ways_of_pairing(ends):
    if not ends:
        return [()]
    rows = []
    for at in range(1, len(ends)):
        rows += [((ends[0], ends[at]),) + row for row in ways_of_pairing(ends[1:at] + ends[at + 1:])]
    return rows


def is_right_row(net, place, value):
    """Judge a whole row, whatever the value is."""
    if type(value) is not tuple:
        return False
    behind = net
    for pair in value:
        if type(pair) is not tuple or pair not in plain_pairs(behind, place):
            return False
        behind = plain_led(behind, place, pair)
    return not plain_pairs(behind, place) and not behind.near(place) and beside(behind, place) == beside(net, place)


def is_right_paper(net, place, pair, value):
    behind = plain_led(net, place, pair)
    if type(value) is not tuple or not value or type(value[0]) is not str:
        return False
    if value[0] == "keeps" and len(value) == 3:
        if not all(is_plain_tree_form(net.places, tree) for tree in value[1:]) or beside(net, place) != beside(behind, place):
            return False
        return is_right_tree(net, value[1]) and is_right_tree(behind, value[2])
    if value[0] == "loses" and len(value) == 4:
        _, one, other, lot = value
        others = [place_ for place_ in net.places if place_ != place]
        if type(one) is not str or type(other) is not str or one not in others or other not in others or one == other:
            return False
        if not is_plain_lot(net, lot) or not 0 < len(lot) < len(net.places) or (one in lot) == (other in lot):
            return False
        return count_cut(behind, lot) < find_numbers(net)[tuple(sorted((one, other)))]
    return False


class TestPairs(unittest.TestCase):
    def test_pairs_and_papers(self):
        for net in FEW + (SEVEN, EXAMPLES[-1]):
            for place in net.places[:3]:
                pairs = pairs_at(net, place)
                self.assertEqual(pairs, tuple(plain_pairs(net, place)))
                told = beside(net, place)
                keeping = tuple(pair for pair in pairs if beside(plain_led(net, place, pair), place) == told)
                self.assertEqual(keeping_pairs(net, place), keeping, (net.ties, place))
                for pair in pairs:
                    self.check_pair(net, place, pair, pair in keeping)

    def check_pair(self, net, place, pair, keeps):
        behind = led_past(net, place, pair)
        self.assertEqual(behind, plain_led(net, place, pair))
        self.assertEqual(behind.places, net.places)
        numbers = beside(net, place)
        self.assertTrue(all(many <= numbers[two] for two, many in beside(behind, place).items()))
        paper = past_paper(net, place, pair)
        self.assertEqual(paper[0], "keeps" if keeps else "loses")
        self.assertTrue(is_right_paper(net, place, pair, paper), (net.ties, place, pair, paper))
        self.assertIs(is_past_paper(net, place, pair, paper), True)

    def test_edges(self):
        self.assertEqual((pairs_at(POINT, "a"), keeping_pairs(POINT, "a"), pairs_at(BARE, "b")), ((), (), ()))
        self.assertEqual((pairs_at(PATH, "c"), pairs_at(PATH, "b")), ((), (("a", "a"), ("a", "c"))))
        self.assertEqual((pairs_at(TWO, "a"), keeping_pairs(TWO, "a")), ((("b", "b"),), (("b", "b"),)))
        self.assertEqual(led_past(TWO, "a", ("b", "b")).ties, {("a", "b"): 1})
        self.assertEqual(past_paper(TWO, "b", ("a", "a")), ("keeps", (("a", "b", 3),), (("a", "b", 1),)))
        full = CROWD.times(1)
        self.assertEqual(led_past(full, "a", ("b", "c")).size, 59)

    def test_all_losing_papers_are_taken(self):
        for net in (HUB, PATH.joined("a", "c"), RING, FULL, Net(("a", "b", "c"), {("a", "b"): 2, ("b", "c"): 2})):
            for place in net.places:
                for pair in pairs_at(net, place):
                    for one, other in itertools.product(net.places, repeat=2):
                        for lot in all_subsets(net.places):
                            value = ("loses", one, other, lot)
                            right = is_right_paper(net, place, pair, value)
                            self.assertIs(is_past_paper(net, place, pair, value), right, (place, pair, value))

    def test_a_lot_with_the_place_and_one_without_it(self):
        for lot in (("a", "z"), ("b", "c"), ("a", "c", "z"), ("b",), ("a",), ("b", "z")):
            right = is_right_paper(HUB, "z", ("b", "c"), ("loses", "a", "b", lot))
            self.assertIs(is_past_paper(HUB, "z", ("b", "c"), ("loses", "b", "a", lot)), right)
        self.assertIs(is_past_paper(HUB, "z", ("b", "c"), ("loses", "a", "b", ("a", "z"))), True)
        self.assertIs(is_past_paper(HUB, "z", ("b", "c"), ("loses", "a", "b", ("b", "c"))), True)

    def test_one_thing_changed(self):
        for net, place, pair in ((HUB, "z", ("b", "c")), (HUB, "z", ("a", "c")), (RING, "b", ("a", "c")), (TWO, "a", ("b", "b")),
                                 (PATH, "b", ("a", "c"))):
            for value in changed_values(past_paper(net, place, pair)):
                self.assertIs(is_past_paper(net, place, pair, value), is_right_paper(net, place, pair, value), value)
        kept = (cut_tree(HUB), cut_tree(led_past(HUB, "z", ("b", "c"))))
        self.assertIs(is_past_paper(HUB, "z", ("b", "c"), ("keeps",) + kept), False)


class TestRows(unittest.TestCase):
    def test_by_all_rows(self):
        some = none = 0
        for net in FEW + tuple(bunches()):
            for place in net.places:
                if net.degrees[place] <= 8:
                    all_rows = paired_rows(net, place)
                    rows = whole_ones(net, place, all_rows)
                    self.check_rows(net, place, rows)
                    for row in all_rows[::5]:
                        self.assertIs(is_whole_row(net, place, row), row in rows)
                    some, none = some + bool(rows), none + (not rows)
        self.assertGreater(min(some, none), 100)

    def check_rows(self, net, place, rows):
        row = whole_row(net, place)
        self.assertEqual(row is None, not rows, (net.ties, place, row, rows))
        if row is not None:
            self.assertIn(tuple(sorted(row)), rows, (net.ties, place))
            self.assertIs(is_whole_row(net, place, row), True)
        for right in rows[:6]:
            self.assertIs(is_whole_row(net, place, right), True)
            self.assertIs(is_whole_row(net, place, right[::-1]), True)
            self.assertIs(is_whole_row(net, place, right[1:]), not right)

    def test_even_places_without_single_ways(self):
        for net in mixed_nets(60, 161) + [SEVEN, CROWD, SEVEN.times(2), FULL.times(10), APART.times(2)]:
            for place in net.places:
                numbers = find_numbers(net) if net.size <= 30 else {}
                ends = [tuple(sorted((place, other))) for other in net.near(place)]
                if net.degrees[place] % 2 == 0 and all(numbers.get(pair, 2) > 1 for pair in ends):
                    row = whole_row(net, place)
                    self.assertIsNotNone(row, (net.ties, place))
                    self.assertEqual(2 * len(row), net.degrees[place])
                    self.assertTrue(is_right_row(net, place, row))

    def test_edges(self):
        self.assertEqual([whole_row(net, "a") for net in (POINT, BARE, TWO, PATH)], [(), (), None, (("b", "b"),)])
        self.assertEqual([is_whole_row(POINT, "a", ()), is_whole_row(BARE, "c", ()), is_whole_row(PATH, "a", ())],
                         [True, True, False])
        # Six places that hang on the seventh by one tie each need five ties, not three.
        self.assertIsNone(whole_row(Net(tuple("abcdefg"), {("a", other): 1 for other in "bcdefg"}), "a"))
        self.assertEqual(whole_row(Net(("a", "b", "c"), {("a", "b"): 1, ("a", "c"): 1}), "a"), (("b", "c"),))
        self.assertIsNone(whole_row(PATH, "b"))
        star = from_ties(tuple("abcdefg"), [("a", other) for other in "bcdefg"] * 10)
        row = whole_row(star, "a")
        self.assertEqual((len(row), is_whole_row(star, "a", row)), (30, True))
        self.assertIsNone(whole_row(star.untied("a", "b"), "a"))
        bundle = from_ties(("a", "b"), [("a", "b")] * 60)
        self.assertEqual(whole_row(bundle, "a"), (("b", "b"),) * 30)

    def test_many_ties_in_vain(self):
        # No tie of the others can be spared for the two that are the only way over.
        net = from_ties(tuple("abcwxz"), [("a", "z"), ("b", "z"), ("c", "z")] * 18 + [("w", "z"), ("x", "z")])
        self.assertIsNone(whole_row(net, "z"))
        row = whole_row(net.joined("a", "b").joined("a", "c").joined("b", "c"), "z")
        self.assertTrue(row is None or len(row) == 28)

    def test_one_thing_changed(self):
        for net, place in ((HUB, "z"), (RING, "b"), (PATH, "a"), (FULL.times(2), "a"), (POINT, "a"), (BARE, "a")):
            row = whole_row(net, place)
            for value in changed_values(row):
                self.assertIs(is_whole_row(net, place, value), is_right_row(net, place, value), (net.ties, place, value))


def bunches():
    """Nets with a place on which several others hang by a single tie."""
    numbers = random.Random(162)
    rows = []
    for _ in range(150):
        ties = [("a", other) for other in "bcd"[:numbers.choice((1, 2, 3))]]
        ties += [("a", numbers.choice("ef")) for _ in range(numbers.choice((1, 2, 3, 4, 5)))]
        ties += [("e", "f")] * numbers.choice((0, 1, 1, 2, 3))
        ties += [tuple(sorted(numbers.sample("bcdef", 2))) for _ in range(numbers.choice((0, 0, 1, 2)))]
        rows.append(from_ties(tuple("abcdef"), ties))
    return rows


class TestPinched(unittest.TestCase):
    def test_there_and_back(self):
        for net in FEW + (SEVEN, CROWD):
            for place in net.places:
                row = whole_row(net, place)
                if row and len(net.places) > 1:
                    behind = net
                    for pair in row:
                        behind = led_past(behind, place, pair)
                    self.assertEqual(pinched(behind.without_place(place), place, row), net)
                    self.assertEqual(pinched(behind.without_place(place), place, row[::-1]), net)

    def test_by_counting(self):
        numbers = random.Random(163)
        for net in small_nets()[::2] + mixed_nets(30, 164):
            if len(net.places) < 7:
                ties = tie_list(net)
                kept = [tie for tie in ties if numbers.random() < 0.5]
                pairs = [tie for tie in ties if tie not in kept] + [(net.places[0],) * 2] * numbers.choice((0, 1, 2))
                numbers.shuffle(pairs)
                left = list(ties)
                for one, other in pairs:
                    if one != other:
                        left.remove((one, other))
                ends = [(end, "q") for pair in pairs for end in pair]
                expected = from_ties(net.places + ("q",), left + ends)
                self.assertEqual(pinched(net, "q", tuple(pairs)), expected)

    def test_edges(self):
        self.assertEqual(pinched(POINT, "b", ()), Net(("a", "b")))
        self.assertEqual(pinched(POINT, "b", (("a", "a"),) * 30).size, 60)
        self.assertEqual(pinched(TWO, "z", (("a", "b"),) * 3).ties, {("a", "z"): 3, ("b", "z"): 3})
        self.assertEqual(pinched(PATH, "z", (("b", "c"), ("a", "b"))).ties,
                         {("a", "b"): 1, ("a", "z"): 1, ("b", "z"): 2, ("c", "z"): 1})


class TestRefusals(Refusals, unittest.TestCase):
    def told(self):
        places = [(value, (UnknownPlace, value)) for value in ODD_VALUES if value not in ("a", "b")]
        return [("net", PATH, wrong_nets()), ("place", "b", places)]

    def test_places(self):
        for call in (pairs_at, keeping_pairs, whole_row):
            self.check_refusals(call, self.told())
        for value in (None, (), (("a", "c"),)):
            self.check_refusals(lambda net, place: is_whole_row(net, place, value), self.told())

    def test_pairs(self):
        wrong = [(value, (InvalidOperation, None)) for value in ODD_VALUES + (
            ("c", "a"), ("a", "b"), ("c", "c"), ("b", "b"), ("a", "c", "c"), ["a", "c"], ("a", "q"), ("a", None), ("a", ["c"]))
            if not same(value, ("a", "a"))]
        told = self.told() + [("pair", ("a", "c"), wrong)]
        for call in (led_past, past_paper):
            self.check_refusals(call, told)
        for value in (None, ("loses", "a", "c", ("c",))):
            self.check_refusals(lambda net, place, pair: is_past_paper(net, place, pair, value), told)
        self.assertIsNone(raised(led_past, PATH, "b", ("a", "a")))
        self.assertEqual(raised(led_past, PATH.untied("a", "b"), "b", ("a", "a")), (InvalidOperation, None))
        self.assertEqual(raised(led_past, POINT, "a", ("a", "a")), (InvalidOperation, None))

    def test_pinched(self):
        places = [(value, (InvalidOperation, None)) for value in ODD_VALUES + ("a", "b", "c")
                  if not (type(value) is str and value.isascii() and value.isalpha() and value.islower() and len(value) < 9)
                  or value in PATH.places]
        pairs = [(value, (InvalidOperation, None)) for value in ODD_VALUES + (
            (("b", "a"),), (("a", "b"),) * 3, (("a", "c"),), (("a", "b"), ("a", "c")), (["a", "b"],), (("a", "b", "c"),),
            (("a", "q"),), (("q", "q"),), [("a", "b")], (("a", "b"), None), (("a", ["b"]),), (("A", "b"),), ((1, "b"),),
            (("a", 1),), (("aa", "b"),), ((None, None),))
            if not same(value, ()) and not same(value, (("a", "b"),))]
        told = [("net", PATH, wrong_nets()), ("place", "z", places), ("pairs", (("a", "b"), ("c", "c")), pairs)]
        self.check_refusals(pinched, told)
        self.assertEqual(raised(pinched, SEVEN, "z", ()), (InvalidNet, None))
        self.assertEqual(raised(pinched, SEVEN, "z", (("b", "a"),)), (InvalidOperation, None))
        self.assertEqual(raised(pinched, SEVEN, "a", ()), (InvalidOperation, None))
        self.assertIsNone(raised(pinched, CROWD.untied("a", "b"), "z", (("c", "d"),)))
        self.assertEqual(raised(pinched, CROWD, "z", (("c", "d"),)), (InvalidNet, None))
        self.assertEqual(raised(pinched, CROWD.untied("a", "b"), "z", (("c", "c"),)), (InvalidNet, None))
        self.assertIsNone(raised(pinched, POINT, "b", (("a", "a"),) * 30))
        self.assertEqual(raised(pinched, POINT, "b", (("a", "a"),) * 31), (InvalidNet, None))

    def test_judges_take_every_value(self):
        for net in (PATH, HUB, RING, TWO):
            for place in net.places:
                right = [value for value in ODD_VALUES if is_right_row(net, place, value)]
                self.check_judge(is_whole_row, net, place, right=right)
                for pair in pairs_at(net, place):
                    self.check_judge(is_past_paper, net, place, pair)
        self.check_judge(is_whole_row, POINT, "a", right=[()])


if __name__ == "__main__":
    unittest.main()
