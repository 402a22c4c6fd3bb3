"""Numbers of ways, beside a second way of counting over all lots."""

import itertools
import unittest

from holdsfast.base.nets import Net
from holdsfast.errors import InvalidOperation, UnknownPlace
from holdsfast.ways.numbers import (
    family, is_family, is_number_paper, least_lot, number, number_paper, numbers,
)
from tests.helpers import (
    APART, CROWD, EXAMPLES, FULL, HUB, ODD_VALUES, PATH, POINT, RING, SEVEN, TWO, Refusals, count_cut, counting_lots,
    mixed_nets, raised, small_nets, tie_list, wrong_nets,
)

NETS = EXAMPLES + tuple(small_nets()[::3]) + tuple(mixed_nets(25, 4))
FAMILY = (("a", "z"), ("a", "z"), ("a", "b", "z"))
PAPER = (FAMILY, ("a",))


def ends(net):
    return itertools.permutations(net.places, 2)


def parting_lots(net, one, other):
    return [lot for lot in counting_lots(net) if one in lot and other not in lot]


def least_count(net, one, other):
    return min(count_cut(net, lot) for lot in parting_lots(net, one, other))


def share_no_tie(net, one, other, ways):
    """Take the ties off one by one, and see whether there are enough of them."""
    left = tie_list(net)
    for way in ways:
        if way[:1] != (one,) or way[-1:] != (other,) or len(set(way)) < len(way):
            return False
        for at in range(len(way) - 1):
            tie = tuple(sorted(way[at:at + 2]))
            if tie not in left:
                return False
            left.remove(tie)
    return True


class TestNumbers(unittest.TestCase):
    def test_numbers(self):
        for net in NETS:
            expected = {(one, other): least_count(net, one, other) for one, other in net.pairs}
            self.assertEqual(list(numbers(net).items()), list(expected.items()))
            for one, other in net.pairs:
                self.assertEqual(number(net, one, other), expected[one, other])
                self.assertEqual(number(net, other, one), expected[one, other])

    def test_edges(self):
        self.assertEqual(numbers(POINT), {})
        self.assertEqual(numbers(TWO), {("a", "b"): 3})
        self.assertEqual(set(numbers(SEVEN).values()), {6})
        self.assertEqual(set(numbers(CROWD).values()), {20})
        self.assertEqual(number(Net(("a", "b")).joined("a", "b", 60), "a", "b"), 60)
        self.assertEqual(numbers(APART)[("a", "c")], 0)
        self.assertEqual([family(APART, "a", "c"), family(APART, "a", "b")], [(), (("a", "b"), ("a", "b"))])

    def test_families(self):
        for net in NETS:
            for one, other in ends(net):
                found = family(net, one, other)
                self.assertIs(type(found), tuple)
                self.assertEqual(len(found), least_count(net, one, other))
                self.assertTrue(share_no_tie(net, one, other, found), (net.ties, found))
                self.assertIs(is_family(net, one, other, found), True)
                self.assertEqual(family(net, one, other), found)

    def test_least_lots(self):
        for net in NETS:
            for one, other in ends(net):
                rows = parting_lots(net, one, other)
                least = [lot for lot in rows if count_cut(net, lot) == least_count(net, one, other)]
                inner = [lot for lot in least if all(set(lot) <= set(more) for more in least)]
                self.assertEqual([least_lot(net, one, other)], inner)

    def test_papers(self):
        for net in NETS:
            for one, other in ends(net):
                ways, lot = number_paper(net, one, other)
                self.assertTrue(share_no_tie(net, one, other, ways))
                self.assertIn(lot, parting_lots(net, one, other))
                self.assertEqual(count_cut(net, lot), len(ways))
                self.assertIs(is_number_paper(net, one, other, (ways, lot)), True)


class TestJudges(unittest.TestCase):
    def test_all_small_families(self):
        for net in (PATH, RING, TWO, Net(("a", "b", "c"), {("a", "b"): 1, ("a", "c"): 1, ("b", "c"): 1})):
            rows = [way for size in range(0, 4) for way in itertools.product(net.places, repeat=size)]
            one, other = net.places[0], net.places[-1]
            for size in range(3):
                for ways in itertools.product(rows, repeat=size):
                    self.check_family(net, one, other, ways)

    def check_family(self, net, one, other, ways):
        right = share_no_tie(net, one, other, ways)
        self.assertIs(is_family(net, one, other, ways), right and len(ways) == number(net, one, other))
        for lot in counting_lots(net) if right or len(ways) < 2 else ():
            fits = right and lot in parting_lots(net, one, other) and count_cut(net, lot) == len(ways)
            self.assertIs(is_number_paper(net, one, other, (ways, lot)), fits)

    def test_ways_that_go_round(self):
        for net in (PATH, HUB, Net(("a", "b", "c"), {("a", "b"): 4, ("b", "c"): 3, ("a", "c"): 2})):
            for one, other in ends(net):
                for size in range(2, 6):
                    for between in itertools.product(net.places, repeat=size - 2):
                        self.check_family(net, one, other, ((one,) + between + (other,),))

    def test_other_orders_and_ways(self):
        for ways in itertools.permutations(FAMILY):
            self.assertIs(is_family(HUB, "a", "z", ways), True)
            self.assertIs(is_number_paper(HUB, "a", "z", (ways, ("a",))), True)
            self.assertIs(is_number_paper(HUB, "a", "z", (ways, ("a", "b"))), True)
            back = tuple(way[::-1] for way in ways)
            self.assertIs(is_family(HUB, "z", "a", back), True)
            self.assertIs(is_family(HUB, "a", "z", back), False)
        self.assertIs(is_family(FULL, "a", "b", (("a", "b"), ("a", "c", "b"), ("a", "d", "b"))), True)
        self.assertIs(is_family(FULL, "a", "b", (("a", "b"), ("a", "c", "d", "b"))), False)
        self.assertIs(is_family(RING, "a", "c", (("a", "d", "c"), ("a", "b", "c"))), True)

    def test_one_thing_changed(self):
        changed = [
            FAMILY[:2], FAMILY + (("a", "z"),), FAMILY[:2] + (("a", "z"),), FAMILY[:2] + (("a", "c", "z"),),
            FAMILY[:2] + (("a", "b"),), FAMILY[:2] + (("b", "z"),), FAMILY[:2] + (("a", "b", "a", "z"),),
            FAMILY[:2] + (("a", "b", "q", "z"),), FAMILY[:2] + (["a", "b", "z"],), list(FAMILY), FAMILY[:2] + ("abz",),
            FAMILY[:2] + (("a", "b", None, "z"),), FAMILY[:2] + (None,), FAMILY[:2] + ((),), FAMILY[:2] + (("a",),),
            FAMILY[:2] + (("a", ["b"], "z"),), FAMILY[:2] + (("a", {"b": 1}, "z"),), FAMILY[:2] + (("z", "b", "a"),),
            FAMILY[:2] + (("a", "b", "z", "z"),), FAMILY[:2] + ((HUB, "z"),), {"a": "z"}, FAMILY[:2] + ({"a": "z"},),
        ]
        for value in changed:
            self.assertIs(is_family(HUB, "a", "z", value), False, value)
            self.assertIs(is_number_paper(HUB, "a", "z", (value, ("a",))), False, value)
        for lot in (("a", "z"), ("z",), ("b",), (), ("a", "b", "c", "z"), ("b", "a"), ["a"], "a", None, True, ("a", "c"),
                    ("a", "q"), {"a": 1}, (("a",),), (HUB,)):
            self.assertIs(is_number_paper(HUB, "a", "z", (FAMILY, lot)), False, lot)
        for value in ((FAMILY,), (FAMILY, ("a",), ()), [FAMILY, ("a",)], (("a",), FAMILY), FAMILY, (None, None)):
            self.assertIs(is_number_paper(HUB, "a", "z", value), False, value)

    def test_no_ways_at_all(self):
        self.assertIs(is_family(APART, "a", "c", ()), True)
        self.assertIs(is_family(APART, "a", "c", (("a", "c"),)), False)
        self.assertIs(is_family(APART, "a", "b", ()), False)
        self.assertIs(is_number_paper(APART, "a", "c", ((), ("a", "b"))), True)
        self.assertIs(is_number_paper(APART, "a", "c", ((), ("a", "b", "d"))), True)
        self.assertIs(is_number_paper(APART, "a", "c", ((), ("a",))), False)
        self.assertIs(is_number_paper(APART, "a", "c", ([], ("a", "b"))), False)


class TestRefusals(Refusals, unittest.TestCase):
    def test_what_is_refused(self):
        unknown = [(value, (UnknownPlace, value)) for value in ODD_VALUES if value not in ("a", "b")]
        told = [("net", PATH, wrong_nets()), ("one", "a", unknown),
                ("other", "b", unknown + [("a", (InvalidOperation, None))])]
        for call in (number, family, least_lot, number_paper):
            self.check_refusals(call, told)
        for judge in (is_family, is_number_paper):
            for value in ((("a", "b"),), None, [1]):
                self.check_refusals(lambda net, one, other: judge(net, one, other, value), told)
        self.check_refusals(numbers, told[:1])

    def test_one_place(self):
        for call in (number, family, least_lot, number_paper):
            self.assertEqual(raised(call, POINT, "a", "a"), (InvalidOperation, None))
            self.assertEqual(raised(call, POINT, "a", "b"), (UnknownPlace, "b"))
            self.assertEqual(raised(call, POINT, "b", "b"), (UnknownPlace, "b"))
        self.assertEqual(raised(is_family, POINT, "a", "a", ()), (InvalidOperation, None))

    def test_judges_take_every_value(self):
        for net, one, other in ((PATH, "a", "b"), (PATH, "c", "a"), (HUB, "a", "z"), (APART, "d", "a"), (TWO, "a", "b")):
            right = [()] if net is APART else []
            self.check_judge(is_family, net, one, other, right=right)
            self.check_judge(is_number_paper, net, one, other)
        self.check_judge(is_family, Net(("a", "b"), {("a", "b"): 1}), "a", "b", right=[(("a", "b"),)])


if __name__ == "__main__":
    unittest.main()
