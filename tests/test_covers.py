"""Covers and crowds, beside a second way of counting over all spreads of the ties and all lots."""

import itertools
import unittest

from holdsfast.base.nets import Net
from holdsfast.errors import InvalidNumber
from holdsfast.trees.covers import cover_paper, crowds_for, fewest_forests, is_cover, is_cover_paper
from tests.helpers import (
    APART, CROWD, EXAMPLES, FULL, HUB, ODD_VALUES, PATH, POINT, RING, SEVEN, TWO, Refusals, all_subsets,
    are_plain_forests, changed_values, count_inside, is_labelled, is_plain_forest, is_plain_lot, mixed_nets, raised,
    same, small_nets, tie_list, wrong_nets,
)

NETS = EXAMPLES + tuple(small_nets()[::3]) + tuple(mixed_nets(25, 100))
BARE = Net(("a", "b", "c"))


def count_forests(net):
    """Put each tie in one of so many forests, in all ways, and find the fewest for which it can be done."""
    def can(left, forests):
        if not left:
            return True
        for at, forest in enumerate(forests):
            grown = tuple(sorted(forest + left[:1]))
            if forest not in forests[:at] and is_plain_forest(net, grown):
                if can(left[1:], forests[:at] + (grown,) + forests[at + 1:]):
                    return True
        return False
    return next(many for many in itertools.count() if can(tuple(tie_list(net)), ((),) * many))


def all_crowds(net, many):
    return sorted(lot for lot in all_subsets(net.places) if lot and count_inside(net, lot) > many * (len(lot) - 1))


def is_right_cover(net, value):
    return are_plain_forests(net, value) and sum(len(forest) for forest in value) == len(tie_list(net))


def is_right_cover_paper(net, many, value):
    if is_labelled(value, "cover"):
        return is_right_cover(net, value[1]) and len(value[1]) == many
    if is_labelled(value, "crowd"):
        return is_plain_lot(net, value[1]) and value[1] in all_crowds(net, many)
    return False


class TestCovers(unittest.TestCase):
    def test_fewest_forests_by_spreading(self):
        for net in small_nets()[::2] + [RING, FULL, HUB, PATH, TWO, APART]:
            self.assertTrue(same(fewest_forests(net), count_forests(net)), net.ties)

    def test_papers(self):
        for net in NETS:
            fewest = min(many for many in range(61) if not all_crowds(net, many))
            self.assertTrue(same(fewest_forests(net), fewest))
            for many in {0, 1, 2, max(fewest - 1, 0), fewest, min(fewest + 1, 60), 60}:
                self.assertEqual(crowds_for(net, many), tuple(all_crowds(net, many)))
                paper = cover_paper(net, many)
                self.assertEqual(paper[0], "cover" if many >= fewest else "crowd")
                self.assertTrue(is_right_cover_paper(net, many, paper), (net.ties, many, paper))
                self.assertIs(is_cover_paper(net, many, paper), True)
                self.assertIs(is_cover_paper(net, many, (paper[0], list(paper[1]))), False)
                if paper[0] == "cover":
                    self.check_cover(net, many, paper[1])

    def check_cover(self, net, many, forests):
        self.assertIs(is_cover(net, forests), True)
        self.assertIs(is_cover(net, forests[::-1]), True)
        self.assertIs(is_cover(net, forests + ((),)), True)
        self.assertIs(is_cover_paper(net, many, ("cover", forests[::-1])), True)
        self.assertIs(is_cover_paper(net, many, ("cover", forests + ((),))), False)
        self.assertIs(is_cover_paper(net, many, ("crowd", forests)), False)

    def test_all_lots(self):
        for net in (PATH, RING, FULL, HUB, TWO, POINT, APART, BARE):
            for many in (0, 1, 2, 3):
                for lot in all_subsets(net.places):
                    self.assertIs(is_cover_paper(net, many, ("crowd", lot)), lot in all_crowds(net, many))

    def test_edges(self):
        for net in (POINT, BARE):
            self.assertEqual((fewest_forests(net), cover_paper(net, 0), crowds_for(net, 0)), (0, ("cover", ()), ()))
            self.assertEqual(cover_paper(net, 2), ("cover", ((), ())))
            for value in ((), ((),), ((), (), ())):
                self.assertIs(is_cover(net, value), True)
                self.assertIs(is_cover_paper(net, len(value), ("cover", value)), True)
                self.assertIs(is_cover_paper(net, len(value) + 1, ("cover", value)), False)
        self.assertEqual(crowds_for(TWO, 0), (("a", "b"),))
        self.assertEqual(crowds_for(APART, 0)[:2], (("a", "b"), ("a", "b", "c")))
        self.assertEqual((cover_paper(TWO, 0), cover_paper(TWO, 3)), (("crowd", ("a", "b")), ("cover", ((("a", "b"),),) * 3)))
        self.assertEqual([fewest_forests(net) for net in (APART, TWO, SEVEN, CROWD)], [2, 3, 4, 12])
        self.assertEqual(fewest_forests(Net(("a", "b")).joined("a", "b", 60)), 60)
        self.assertEqual(cover_paper(Net(("a", "b")).joined("a", "b", 60), 60), ("cover", ((("a", "b"),),) * 60))
        self.assertIs(is_cover(TWO, ()), False)
        self.assertIs(is_cover(PATH, ((("a", "b"),), (), (("a", "b"), ("b", "c")))), True)

    def test_one_thing_changed(self):
        for net, many in ((PATH, 2), (PATH, 1), (RING, 2), (FULL, 2), (HUB, 3), (TWO, 3), (TWO, 0), (POINT, 1), (BARE, 0)):
            paper = cover_paper(net, many)
            for value in changed_values(paper):
                self.assertIs(is_cover_paper(net, many, value), is_right_cover_paper(net, many, value), value)
            for value in changed_values(paper[1]):
                self.assertIs(is_cover(net, value), is_right_cover(net, value), value)


class TestRefusals(Refusals, unittest.TestCase):
    def test_many(self):
        wrong = [(value, (InvalidNumber, value)) for value in ODD_VALUES + (61, 10 ** 11)
                 if type(value) is not int or not 0 <= value <= 60]
        told = [("net", PATH, wrong_nets()), ("many", 2, wrong)]
        for call in (cover_paper, crowds_for):
            self.check_refusals(call, told)
            for many in (0, 60):
                self.assertIsNone(raised(call, PATH, many))
        for value in (None, cover_paper(PATH, 2), ()):
            self.check_refusals(lambda net, many: is_cover_paper(net, many, value), told)
        self.assertTrue(same(raised(cover_paper, PATH, False)[1], False))

    def test_nets(self):
        told = [("net", PATH, wrong_nets())]
        self.check_refusals(fewest_forests, told)
        for value in ((), None):
            self.check_refusals(lambda net: is_cover(net, value), told)

    def test_judges_take_every_value(self):
        for net in (PATH, HUB, POINT, TWO, BARE):
            self.check_judge(is_cover, net, right=[value for value in ODD_VALUES if is_right_cover(net, value)])
            for many in (0, 2):
                self.check_judge(is_cover_paper, net, many)


if __name__ == "__main__":
    unittest.main()
