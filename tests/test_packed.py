"""Packed trees and forests, beside a second way of counting over all trees, all spreads of ties and all partings."""

import itertools
import unittest

from holdsfast.base.nets import Net
from holdsfast.errors import InvalidNumber, InvalidOperation
from holdsfast.trees.packed import (
    MAX_TREES, do_share, forests_paper, is_forest, is_forests_paper, is_tree, is_trees_paper, most_forest_ties,
    most_trees, trees_paper,
)
from tests.helpers import (
    APART, CROWD, EXAMPLES, FULL, HUB, HUGE, ODD_VALUES, PATH, POINT, RING, SEVEN, TWO, Refusals, all_partings_of,
    are_plain_forests, changed_values, count_across, is_labelled, is_plain_forest, is_plain_parting, is_plain_tree,
    is_two, mixed_nets, raised, same, small_nets, tie_list, wrong_nets,
)

NETS = EXAMPLES + tuple(small_nets()[::3]) + tuple(mixed_nets(25, 90))
BARE = Net(("a", "b", "c"))
SIXTY = SEVEN.times(2).joined("a", "b", 6).joined("c", "d", 6).joined("e", "f", 6)
TREES = ((("a", "b"), ("b", "c"), ("c", "d")), (("a", "c"), ("a", "d"), ("b", "d")))


def all_forests(net):
    rows = [row for size in range(len(net.places)) for row in itertools.combinations(sorted(net.ties), size)]
    return [row for row in rows if is_plain_forest(net, row)]


def count_trees(net):
    """Pack trees by trying all of them, one behind another, with the ties that are left."""
    trees = [row for row in all_forests(net) if len(row) == len(net.places) - 1]

    def most(left, rows):
        best = 0
        for at, tree in enumerate(rows):
            if all(left[pair] for pair in tree):
                best = max(best, 1 + most({pair: left[pair] - (pair in tree) for pair in left}, rows[at:]))
        return best
    return most(net.ties, trees)


def count_by_partings(net):
    """Return the ties across each parting."""
    return {parting: count_across(net, parting) for parting in all_partings_of(net.places)}


def count_forest_ties(net, many):
    """Spread the ties over so many forests in all ways, and see how many find room."""
    reached = {((),) * many}
    for tie in tie_list(net):
        for state in list(reached):
            for at in range(many):
                grown = tuple(sorted(state[at] + (tie,)))
                if is_plain_forest(net, grown):
                    reached.add(tuple(sorted(state[:at] + (grown,) + state[at + 1:])))
    return max(sum(len(forest) for forest in state) for state in reached)


def is_right_trees_paper(net, many, value):
    if is_labelled(value, "trees"):
        return are_plain_forests(net, value[1], many) and all(is_plain_tree(net, tree) for tree in value[1])
    if is_labelled(value, "parting"):
        return is_plain_parting(net, value[1]) and count_across(net, value[1]) < many * (len(value[1]) - 1)
    return False


def is_right_forests_paper(net, many, value):
    if not is_two(value) or not are_plain_forests(net, value[0], many) or not is_plain_parting(net, value[1]):
        return False
    room = count_across(net, value[1]) + sum(many * (len(part) - 1) for part in value[1])
    return sum(len(forest) for forest in value[0]) == room


class TestForests(unittest.TestCase):
    def test_all_rows_of_pairs(self):
        for net in (POINT, TWO, PATH, RING, FULL, HUB, APART, BARE):
            rows = [row for size in range(len(net.places) + 1) for row in itertools.combinations(net.pairs, size)]
            for row in rows:
                expected = is_plain_forest(net, row)
                self.assertIs(is_forest(net, row), expected, row)
                self.assertIs(is_tree(net, row), expected and len(row) == len(net.places) - 1, row)

    def test_edges(self):
        self.assertIs(is_tree(POINT, ()), True)
        self.assertIs(is_tree(BARE, ()), False)
        self.assertIs(is_forest(BARE, ()), True)
        self.assertIs(is_forest(BARE, (("a", "b"),)), False)
        self.assertIs(is_tree(TWO, (("a", "b"),)), True)
        self.assertIs(is_forest(TWO, (("a", "b"), ("a", "b"))), False)
        self.assertIs(is_tree(SEVEN, tuple(("a", other) for other in SEVEN.places[1:])), True)
        self.assertIs(is_tree(APART, (("a", "b"), ("c", "e"))), False)

    def test_one_thing_changed(self):
        for net, forest in ((FULL, TREES[0]), (HUB, (("a", "b"), ("b", "z"))), (TWO, (("a", "b"),)), (APART, ())):
            for value in changed_values(forest):
                self.assertIs(is_forest(net, value), is_plain_forest(net, value), value)
                self.assertIs(is_tree(net, value), is_plain_tree(net, value), value)

    def test_do_share(self):
        for net in (PATH, TWO, RING, HUB, BARE, POINT):
            rows = all_forests(net)
            for size in range(4 if len(rows) < 9 else 3):
                for forests in itertools.product(rows, repeat=size):
                    self.assertIs(do_share(net, forests), not are_plain_forests(net, forests), (net.ties, forests))
        self.assertIs(do_share(PATH, ((("a", "b"),),) * 2), False)
        self.assertIs(do_share(PATH, ((("a", "b"),),) * 3), True)
        self.assertIs(do_share(PATH, ((("b", "c"),), (("a", "b"), ("b", "c")))), True)
        self.assertIs(do_share(CROWD, ((("a", "b"),),) * 4), False)
        self.assertIs(do_share(PATH, ((),) * 70), False)
        self.assertIs(do_share(PATH, ()), False)


class TestTrees(unittest.TestCase):
    def test_most_trees_by_packing(self):
        for net in [net for net in small_nets()[::2] if len(net.places) > 1] + [RING, FULL, HUB, PATH, TWO]:
            self.assertTrue(same(most_trees(net), count_trees(net)), net.ties)

    def test_most_trees_by_partings(self):
        for net in NETS:
            if len(net.places) > 1:
                table = count_by_partings(net)
                most = min(table[parting] // (len(parting) - 1) for parting in table if len(parting) > 1)
                self.assertEqual(most_trees(net), most)
                for many in (1, most, most + 1, most + 2, 60):
                    if 1 <= many <= 60:
                        self.check_paper(net, many, "trees" if many <= most else "parting")

    def check_paper(self, net, many, word):
        paper = trees_paper(net, many)
        self.assertEqual(paper[0], word)
        self.assertTrue(is_right_trees_paper(net, many, paper), (net.ties, many, paper))
        self.assertIs(is_trees_paper(net, many, paper), True)
        if word == "trees":
            self.assertIs(is_trees_paper(net, many, (word, paper[1][::-1])), True)
            self.assertIs(is_trees_paper(net, many, (word, paper[1][1:])), False)
            self.assertIs(is_trees_paper(net, many, (word, list(paper[1]))), False)

    def test_all_partings(self):
        for net in (PATH, RING, FULL, HUB, TWO, POINT, APART, BARE):
            table = count_by_partings(net)
            for many in (1, 2, 3, 60):
                for parting in table:
                    expected = table[parting] < many * (len(parting) - 1)
                    self.assertIs(is_trees_paper(net, many, ("parting", parting)), expected, (net.ties, many, parting))

    def test_all_pairs_of_trees(self):
        for net in (PATH, RING, FULL, HUB):
            rows = all_forests(net)
            for trees in itertools.product(rows, repeat=2):
                paper = ("trees", trees)
                self.assertIs(is_trees_paper(net, 2, paper), is_right_trees_paper(net, 2, paper))

    def test_edges(self):
        self.assertEqual(MAX_TREES, 60)
        self.assertIsNone(most_trees(POINT))
        for many in (1, 2, 60):
            self.assertEqual(trees_paper(POINT, many), ("trees", ((),) * many))
            self.assertIs(is_trees_paper(POINT, many, ("trees", ((),) * many)), True)
            self.assertIs(is_trees_paper(POINT, many, ("trees", ((),) * (many - 1))), False)
            self.assertIs(is_trees_paper(POINT, many, ("parting", (("a",),))), False)
        self.assertEqual([most_trees(net) for net in (BARE, APART, TWO, SEVEN, CROWD)], [0, 0, 3, 3, 12])
        self.assertEqual(most_trees(Net(("a", "b")).joined("a", "b", 60)), 60)
        self.assertEqual(trees_paper(Net(("a", "b")).joined("a", "b", 60), 60), ("trees", ((("a", "b"),),) * 60))
        self.assertEqual(trees_paper(BARE, 1)[0], "parting")
        self.assertEqual([trees_paper(SIXTY, many)[0] for many in (1, 10, 11, 60)], ["trees"] * 2 + ["parting"] * 2)

    def test_one_thing_changed(self):
        for net, many in ((FULL, 2), (RING, 2), (RING, 1), (TWO, 3), (PATH, 1), (POINT, 1), (HUB, 2), (APART, 1)):
            for value in changed_values(trees_paper(net, many)):
                self.assertIs(is_trees_paper(net, many, value), is_right_trees_paper(net, many, value), value)
        self.assertIs(is_trees_paper(FULL, 2, ("trees", TREES)), True)
        self.assertIs(is_trees_paper(FULL, 2, ("trees", (TREES[0], TREES[0]))), False)
        self.assertIs(is_trees_paper(FULL, 1, ("trees", TREES)), False)
        self.assertIs(is_trees_paper(FULL, 3, ("trees", TREES)), False)
        self.assertIs(is_trees_paper(FULL, 2, ("parting", TREES)), False)
        self.assertIs(is_trees_paper(FULL, 2, ("trees", (("a",), ("b",), ("c",), ("d",)))), False)
        self.assertIs(is_trees_paper(FULL, 2, ("forest", TREES)), False)


class TestForestTies(unittest.TestCase):
    def test_most_ties_by_spreading(self):
        for net in [net for net in small_nets()[::3] if net.size <= 6] + [RING, FULL, HUB, PATH, TWO]:
            for many in (1, 2, 3):
                self.assertTrue(same(most_forest_ties(net, many), count_forest_ties(net, many)), (net.ties, many))

    def test_papers(self):
        for net in NETS:
            table = count_by_partings(net)
            for many in (1, 2, 3, 5, 10, 60):
                room = min(table[row] + sum(many * (len(part) - 1) for part in row) for row in table)
                self.assertEqual(most_forest_ties(net, many), room)
                paper = forests_paper(net, many)
                self.assertTrue(is_right_forests_paper(net, many, paper), (net.ties, many, paper))
                self.assertIs(is_forests_paper(net, many, paper), True)
                self.assertIs(is_forests_paper(net, many, (paper[0][::-1], paper[1])), True)
                self.assertIs(is_forests_paper(net, many, (paper[0][1:], paper[1])), False)
                for parting in list(table)[::len(table) // 20 + 1]:
                    expected = is_right_forests_paper(net, many, (paper[0], parting))
                    self.assertIs(is_forests_paper(net, many, (paper[0], parting)), expected)

    def test_edges(self):
        for many in (1, 2, 60):
            self.assertEqual((most_forest_ties(POINT, many), forests_paper(POINT, many)), (0, (((),) * many, (("a",),))))
            self.assertEqual(most_forest_ties(BARE, many), 0)
            self.assertEqual(most_forest_ties(TWO, many), min(many, 3))
        self.assertEqual([most_forest_ties(SIXTY, many) for many in (1, 2, 60)], [6, 12, 60])
        self.assertIs(is_forests_paper(TWO, 5, (((("a", "b"),),) * 3 + ((), ()), (("a",), ("b",)))), True)
        self.assertIs(is_forests_paper(TWO, 5, (((), (("a", "b"),), ()) + ((("a", "b"),),) * 2, (("a",), ("b",)))), True)
        self.assertIs(is_forests_paper(TWO, 5, (((("a", "b"),),) * 4 + ((),), (("a",), ("b",)))), False)
        self.assertIs(is_forests_paper(TWO, 2, (((("a", "b"),),) * 2, (("a", "b"),))), True)

    def test_one_thing_changed(self):
        for net, many in ((PATH, 2), (RING, 2), (FULL, 1), (HUB, 2), (TWO, 4), (POINT, 2), (BARE, 1), (APART, 2)):
            for value in changed_values(forests_paper(net, many)):
                self.assertIs(is_forests_paper(net, many, value), is_right_forests_paper(net, many, value), value)


class TestRefusals(Refusals, unittest.TestCase):
    def test_many(self):
        wrong = [(value, (InvalidNumber, value)) for value in ODD_VALUES + (61, 10 ** 11, -60)
                 if type(value) is not int or not 1 <= value <= 60]
        told = [("net", PATH, wrong_nets()), ("many", 2, wrong)]
        for call in (trees_paper, most_forest_ties, forests_paper):
            self.check_refusals(call, told)
            for many in (1, 60):
                self.assertIsNone(raised(call, PATH, many))
        for judge, paper in ((is_trees_paper, trees_paper), (is_forests_paper, forests_paper)):
            for value in (None, paper(PATH, 2), ()):
                self.check_refusals(lambda net, many: judge(net, many, value), told)
        self.assertTrue(same(raised(trees_paper, PATH, True)[1], True))

    def test_nets(self):
        told = [("net", PATH, wrong_nets())]
        self.check_refusals(most_trees, told)
        for judge in (is_forest, is_tree):
            for value in ((), None, (("a", "b"),)):
                self.check_refusals(lambda net: judge(net, value), told)

    def test_no_forests(self):
        wrong = [value for value in ODD_VALUES if not are_plain_forests(FULL, value)]
        wrong += [list(TREES), (TREES[0], list(TREES[1])), (TREES[0], TREES[1][::-1]), (TREES[0], (("a", "q"),)), TREES[0],
                  (("a", "b"),), ((("b", "a"),),), (TREES[0] + (("c", "d"),),), (TREES[0][:2] + (("a", "c"),),), HUGE,
                  ((("a", "b"), ("a", "c"), ("b", "c")),), ((("a", "b"), None),), {(): 1}, ("",), ((["a", "b"],),)]
        self.check_refusals(do_share, [("net", FULL, wrong_nets()),
                                       ("forests", TREES, [(value, (InvalidOperation, None)) for value in wrong])])
        self.assertEqual(raised(do_share, BARE, ((("a", "b"),),)), (InvalidOperation, None))

    def test_judges_take_every_value(self):
        for net in (PATH, HUB, POINT, TWO, BARE):
            self.check_judge(is_forest, net, right=[value for value in ODD_VALUES if is_plain_forest(net, value)])
            self.check_judge(is_tree, net, right=[value for value in ODD_VALUES if is_plain_tree(net, value)])
            self.check_judge(is_trees_paper, net, 2)
            self.check_judge(is_forests_paper, net, 2)


if __name__ == "__main__":
    unittest.main()
