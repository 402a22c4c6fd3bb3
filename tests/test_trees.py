"""Trees of cuts, beside a second way of counting over all trees and lots."""

import itertools
import unittest

from holdsfast.base.nets import Net
from holdsfast.errors import InvalidNumber, InvalidOperation, UnknownPlace
from holdsfast.ways.trees import cut_tree, is_cut_tree, tree_lot, tree_number
from tests.helpers import (
    APART, CROWD, EXAMPLES, FULL, HUB, HUGE, ODD_VALUES, PATH, POINT, RING, SEVEN, TWO, Refusals, count_cut,
    counting_lots, mixed_nets, raised, same, small_nets, wrong_nets,
)

NETS = EXAMPLES + tuple(small_nets()[::2]) + tuple(mixed_nets(30, 5))
PATH_TREE = (("a", "b", 2), ("b", "c", 1))


def least_count(net, one, other):
    return min(count_cut(net, lot) for lot in counting_lots(net) if (one in lot) != (other in lot))


def side_of(tree, left_out):
    """Walk from the first place of a triple along all other ones."""
    found = {left_out[0]}
    for _ in tree:
        for triple in tree:
            if triple != left_out and found & set(triple[:2]):
                found |= set(triple[:2])
    return tuple(sorted(found))


def is_right_tree(net, tree):
    """Judge an ascending tuple of triples with their pairs in order, by walking and counting."""
    for triple in tree:
        lot = side_of(tree, triple)
        if triple[1] in lot or count_cut(net, lot) != triple[2] or least_count(net, *triple[:2]) != triple[2]:
            return False
    return len(tree) == len(net.places) - 1 and list(tree) == sorted(tree)


class TestTrees(unittest.TestCase):
    def test_cut_trees(self):
        for net in NETS:
            tree = cut_tree(net)
            self.assertTrue(is_right_tree(net, tree), (net.ties, tree))
            self.assertIs(is_cut_tree(net, tree), True)
            self.assertTrue(all(type(triple[2]) is int for triple in tree))

    def test_edges(self):
        self.assertEqual((cut_tree(POINT), is_cut_tree(POINT, ())), ((), True))
        self.assertEqual(cut_tree(TWO), (("a", "b", 3),))
        self.assertEqual(cut_tree(Net(("a", "b")).joined("a", "b", 60)), (("a", "b", 60),))
        self.assertEqual([triple[2] for triple in cut_tree(CROWD)], [20] * 5)
        self.assertEqual([triple[2] for triple in cut_tree(SEVEN)], [6] * 6)
        self.assertEqual(sorted(triple[2] for triple in cut_tree(APART)), [0, 0, 1, 2])

    def test_what_trees_tell(self):
        for net in NETS:
            tree = cut_tree(net)
            for one, other in itertools.permutations(net.places, 2):
                self.assertEqual(tree_number(net, tree, one, other), least_count(net, one, other))
            for index, triple in enumerate(tree):
                self.assertEqual(tree_lot(net, tree, index), side_of(tree, triple))
                self.assertEqual(count_cut(net, tree_lot(net, tree, index)), triple[2])


class TestJudge(Refusals, unittest.TestCase):
    def test_all_trees_of_small_nets(self):
        nets = [net for net in small_nets()[::2] + mixed_nets(12, 6) if len(net) in (2, 3, 4, 5)]
        for net in nets + [RING, FULL, HUB]:
            right = 0
            for pairs in itertools.combinations(net.pairs, len(net) - 1):
                bare = tuple(pair + (0,) for pair in pairs)
                tree = tuple(triple[:2] + (count_cut(net, side_of(bare, triple)),) if triple[1] not in
                             side_of(bare, triple) else triple for triple in bare)
                expected = is_right_tree(net, tree)
                self.assertIs(is_cut_tree(net, tree), expected, (net.ties, tree))
                right += expected
                if expected:
                    self.check_changed(net, tree)
            self.assertGreater(right, 0)

    def check_changed(self, net, tree):
        for at, (one, other, many) in enumerate(tree):
            for changed in ((one, other, many + 1), (one, other, many - 1), (other, one, many), (one, other),
                            (one, other, many, many), [one, other, many], (one, one, many), (one, "q", many),
                            (one, other, str(many)), (one, other, None), (one, other, bool(many)), (one, other, -HUGE),
                            ((one,), other, many), (one, [other], many), None, one, (many, one, other)):
                value = tree[:at] + (changed,) + tree[at + 1:]
                self.assertIs(is_cut_tree(net, value), False, value)
            self.assertIs(is_cut_tree(net, tree[:at] + tree[at + 1:]), False)
            self.assertIs(is_cut_tree(net, tree[:at] + tree[at:at + 1] + tree[at:]), False)
        self.assertIs(is_cut_tree(net, list(tree)), False)
        self.assertIs(is_cut_tree(net, {triple: 1 for triple in tree}), False)
        if len(tree) > 1:
            self.assertIs(is_cut_tree(net, tree[::-1]), False)

    def test_circles_are_no_trees(self):
        for net in (PATH, RING, FULL, HUB, TWO):
            for size in range(len(net) + 1):
                for pairs in itertools.combinations(net.pairs, size):
                    value = tuple(pair + (least_count(net, *pair),) for pair in pairs)
                    right = all(triple[1] not in side_of(value, triple) for triple in value)
                    self.assertIs(is_cut_tree(net, value), right and is_right_tree(net, value), value)

    def test_true_is_no_one(self):
        net = Net(("a", "b"), {("a", "b"): 1})
        self.assertIs(is_cut_tree(net, (("a", "b", 1),)), True)
        self.assertIs(is_cut_tree(net, (("a", "b", True),)), False)
        self.assertIs(is_cut_tree(Net(("a", "b")), (("a", "b", False),)), False)
        self.assertIs(is_cut_tree(Net(("a", "b")), (("a", "b", 0),)), True)

    def test_different_trees_of_one_net(self):
        for middle in FULL:
            pairs = [tuple(sorted((place, middle))) for place in FULL if place != middle]
            self.assertIs(is_cut_tree(FULL, tuple(sorted(pair + (3,) for pair in pairs))), True)
        self.assertIs(is_cut_tree(FULL, (("a", "b", 3), ("b", "c", 3), ("c", "d", 3))), False)
        self.assertIs(is_cut_tree(RING, (("a", "b", 2), ("b", "c", 2), ("c", "d", 2))), True)
        self.assertIs(is_cut_tree(RING, (("a", "c", 2), ("b", "c", 2), ("b", "d", 2))), False)

    def test_judge_takes_every_value(self):
        for net in (PATH, HUB, TWO, APART):
            self.check_judge(is_cut_tree, net)
        self.check_judge(is_cut_tree, POINT, right=[()])
        self.check_judge(is_cut_tree, Net(("a", "b"), {("a", "b"): 1}), right=[(("a", "b", 1),)])


class TestRefusals(Refusals, unittest.TestCase):
    def test_what_is_refused(self):
        trees = [(value, (InvalidOperation, None)) for value in ODD_VALUES + (
            PATH_TREE[:1], PATH_TREE[::-1], list(PATH_TREE), (("a", "b", 2), ("a", "c", 1)), (("a", "b", 2), ("b", "c", True)))]
        unknown = [(value, (UnknownPlace, value)) for value in ODD_VALUES if value not in ("a", "b")]
        told = [("net", PATH, wrong_nets()), ("tree", PATH_TREE, trees)]
        self.check_refusals(cut_tree, told[:1])
        self.check_refusals(lambda net: is_cut_tree(net, PATH_TREE), told[:1])
        self.check_refusals(lambda net: is_cut_tree(net, None), told[:1])
        self.check_refusals(tree_number, told + [("one", "a", unknown),
                                                 ("other", "b", unknown + [("a", (InvalidOperation, None))])])
        indices = [(value, (InvalidNumber, value)) for value in ODD_VALUES + (2, 7)
                   if type(value) is not int or value not in (0, 1)]
        self.check_refusals(tree_lot, told + [("index", 0, indices)])

    def test_one_place(self):
        self.assertEqual(raised(tree_number, POINT, (), "a", "a"), (InvalidOperation, None))
        self.assertEqual(raised(tree_number, POINT, None, "q", "a"), (InvalidOperation, None))
        self.assertEqual(raised(tree_number, POINT, (), "q", "a"), (UnknownPlace, "q"))
        self.assertEqual(raised(tree_lot, POINT, (), 0), (InvalidNumber, 0))

    def test_true_is_no_index(self):
        for value in (True, False):
            found = raised(tree_lot, PATH, PATH_TREE, value)
            self.assertTrue(found[0] is InvalidNumber and same(found[1], value))


if __name__ == "__main__":
    unittest.main()
