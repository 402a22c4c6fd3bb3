"""Least cuts, beside a second way of counting over all lots."""

import itertools
import unittest

from holdsfast.base.nets import Net
from holdsfast.errors import InvalidLot, InvalidNet, InvalidOperation
from holdsfast.least.cuts import (
    crossing, is_least, is_least_paper, least_cut, least_lots, least_paper, leaves,
)
from holdsfast.ways.trees import cut_tree, is_cut_tree
from tests.helpers import (
    APART, CROWD, EXAMPLES, HUB, HUGE, ODD_VALUES, PATH, POINT, RING, SEVEN, TWO, Refusals, count_cut, counting_lots,
    mixed_nets, raised, small_nets, tie_list, wrong_nets,
)

NETS = tuple(net for net in EXAMPLES + tuple(small_nets()[::2]) + tuple(mixed_nets(30, 7)) if len(net.places) > 1)


def count_least(net):
    """Return the least cut, and the set of the least lots."""
    counts = {lot: count_cut(net, lot) for lot in counting_lots(net)}
    least = min(counts.values())
    return least, {lot for lot in counts if counts[lot] == least}


def ordered(lots):
    return tuple(sorted(tuple(sorted(lot)) for lot in lots))


class TestLeastCuts(unittest.TestCase):
    def test_least_lots(self):
        for net in NETS:
            least, rows = count_least(net)
            self.assertEqual(least_cut(net), least)
            self.assertEqual(least_lots(net), ordered(lot for lot in rows if net.places[0] in lot))
            for lot in counting_lots(net):
                self.assertIs(is_least(net, lot), lot in rows)

    def test_leaves(self):
        for net in NETS:
            least, rows = count_least(net)
            inner = [lot for lot in rows if not any(set(other) < set(lot) for other in rows)]
            self.assertEqual(leaves(net), ordered(inner))
            if least:
                self.assertEqual(len({place for lot in inner for place in lot}), sum(len(lot) for lot in inner))
                self.assertGreaterEqual(len(leaves(net)), 2)

    def test_crossing(self):
        for net in NETS:
            _, rows = count_least(net)
            first = sorted(lot for lot in rows if net.places[0] in lot)
            pairs = [(one, other) for one, other in itertools.combinations(first, 2)
                     if set(one) - set(other) and set(other) - set(one) and set(one) | set(other) != set(net.places)]
            self.assertEqual(crossing(net), tuple(pairs))

    def test_promise_of_crossing_lots(self):
        for net in NETS:
            least, rows = count_least(net)
            for lot in rows:
                self.assertIn(tuple(sorted(set(net.places) - set(lot))), rows)
            for one, other in crossing(net) if least else ():
                x, y = set(one), set(other)
                for lot in (x & y, x | y, x - y, y - x):
                    self.assertIs(is_least(net, tuple(sorted(lot))), True)
                for tie in tie_list(net):
                    self.assertFalse(len(set(tie) & x) == 1 and len(set(tie) & y) == 1)

    def test_edges(self):
        self.assertEqual((least_cut(TWO), least_lots(TWO), leaves(TWO)), (3, (("a",),), (("a",), ("b",))))
        bare = Net(("a", "b", "c"))
        self.assertEqual((least_cut(bare), least_lots(bare)), (0, (("a",), ("a", "b"), ("a", "c"))))
        self.assertEqual((leaves(bare), crossing(bare)), ((("a",), ("b",), ("c",)), ()))
        self.assertEqual((least_cut(APART), least_lots(APART)), (0, (("a", "b"), ("a", "b", "c", "e"), ("a", "b", "d"))))
        self.assertEqual(leaves(APART), (("a", "b"), ("c", "e"), ("d",)))
        self.assertEqual((least_cut(SEVEN), least_cut(CROWD)), (6, 20))
        ring = Net.ring(SEVEN.places)
        self.assertEqual((least_cut(ring), len(least_lots(ring)), len(crossing(ring))), (2, 21, 35))

    def test_papers(self):
        for net in NETS:
            least, rows = count_least(net)
            lot, tree = least_paper(net)
            self.assertIn(lot, rows)
            self.assertIs(is_cut_tree(net, tree), True)
            self.assertEqual(min(triple[2] for triple in tree), least)
            self.assertIs(is_least_paper(net, (lot, tree)), True)
            for other in counting_lots(net):
                self.assertIs(is_least_paper(net, (other, tree)), other in rows)

    def test_changed_papers(self):
        lot, tree = least_paper(HUB)
        changed = [(lot,), (lot, tree, tree), [lot, tree], (tree, lot), (list(lot), tree), (lot, list(tree)),
                   (lot, tree[:-1]), (lot, tree[::-1]), (lot, ()), ((), tree), (HUB.places, tree), (lot[::-1], tree),
                   (None, tree), (lot, None), (True, tree), ("c", tree), (("c", "q"), tree), {lot: tree}, (lot, lot),
                   (lot, tuple(triple[:2] + (bool(triple[2]),) for triple in tree)),
                   (lot, tuple(triple[:2] + (triple[2] + 1,) for triple in tree))]
        for value in changed:
            self.assertIs(is_least_paper(HUB, value), False, value)
        self.assertIs(is_least_paper(HUB, (("c",), tree)), True)
        self.assertIs(is_least_paper(RING, (("b", "c"), (("a", "d", 2), ("b", "d", 2), ("c", "d", 2)))), True)
        one = Net(("a", "b"), {("a", "b"): 1})
        self.assertIs(is_least_paper(one, (("b",), (("a", "b", 1),))), True)
        self.assertIs(is_least_paper(one, (("b",), (("a", "b", True),))), False)


class TestRefusals(Refusals, unittest.TestCase):
    def test_nets(self):
        for call in (least_cut, least_lots, leaves, crossing, least_paper):
            self.check_refusals(call, [("net", PATH, wrong_nets() + [(POINT, (InvalidOperation, None))])])
        for value in (None, least_paper(PATH)):
            self.check_refusals(lambda net: is_least_paper(net, value),
                                [("net", PATH, wrong_nets() + [(POINT, (InvalidOperation, None))])])

    def test_lots(self):
        wrong = [value for value in ODD_VALUES if value not in (("a",), ("a", "b"))] + [
            ("a", "b", "c"), ("a", "q"), ("b", "a"), ["a"], ("a", True), HUGE]
        self.check_refusals(is_least, [("net", PATH, wrong_nets()), ("lot", ("a",),
                                                                    [(value, (InvalidLot, None)) for value in wrong])])
        for lot in ((), ("a",), None):
            self.assertEqual(raised(is_least, POINT, lot), (InvalidLot, None))
        self.assertEqual(raised(is_least, None, None), (InvalidNet, None))

    def test_judge_takes_every_value(self):
        for net in (PATH, HUB, TWO, APART):
            self.check_judge(is_least_paper, net)

    def test_trees_of_others_are_taken(self):
        self.assertIs(is_least_paper(PATH, (("a", "b"), cut_tree(PATH))), True)


if __name__ == "__main__":
    unittest.main()
