"""New ties for packed trees, beside a second way of counting over all partings, all trees and all new ties."""

import itertools
import random
import unittest

from holdsfast.base.nets import Net
from holdsfast.errors import InvalidNet, InvalidNumber
from holdsfast.more.trees import (
    coarsest_worst, filling, filling_paper, is_filling, is_filling_paper, lack, needed_pairs, worst_partings,
)
from tests.helpers import (
    APART, CROWD, EXAMPLES, FULL, HUB, ODD_VALUES, PATH, POINT, RING, SEVEN, TWO, Refusals, all_partings_of,
    changed_values, count_across, is_plain_forest, is_plain_parting, is_plain_tree, mixed_nets, raised, same, small_nets,
    tie_list, wrong_nets,
)
from tests.test_more_cuts import all_new, are_new
from tests.test_packed import SIXTY, count_trees
from tests.test_past import from_ties

BARE = Net(("a", "b", "c"))
NETS = EXAMPLES + tuple(small_nets()[::3]) + tuple(mixed_nets(30, 190)) + (BARE, SIXTY)
SMALL = (POINT, TWO, PATH, RING, FULL, HUB, BARE, Net(("a", "b"))) + tuple(small_nets()[::6])


def count_lacks(net, many, ties=()):
    found = {}
    for parting in all_partings_of(net.places):
        across = count_across(net, parting)
        across += sum(1 for one, other in ties if not any(one in part and other in part for part in parting))
        found[parting] = many * (len(parting) - 1) - across
    return found


def is_coarser(one, other):
    return all(any(set(part) <= set(wider) for wider in one) for part in other)


def are_right_trees(net, ties, many, value):
    """Judge trees that share no tie of a net and of some new ties."""
    if type(value) is not tuple or len(value) != many:
        return False
    more = Net(net.places, {pair: 1 for pair in set(tie_list(net)) | set(ties)})
    left = tie_list(net) + list(ties)
    for tree in value:
        if not is_plain_tree(more, tree):
            return False
        for pair in tree:
            if pair not in left:
                return False
            left.remove(pair)
    return True


def is_right_paper(net, many, value):
    if type(value) is not tuple or len(value) != 3 or not are_new(net, value[0]) or not is_plain_parting(net, value[2]):
        return False
    return are_right_trees(net, value[0], many, value[1]) and count_lacks(net, many)[value[2]] == len(value[0])


class TestLacks(unittest.TestCase):
    def test_by_all_partings(self):
        for net in NETS:
            for many in (1, 2, 3, 7, 10):
                lacks = count_lacks(net, many)
                most = max(lacks.values())
                worst = tuple(sorted(parting for parting in lacks if lacks[parting] == most))
                self.assertTrue(same(lack(net, many), most))
                self.assertGreaterEqual(most, 0)
                self.assertEqual(worst_partings(net, many), worst)
                coarsest = coarsest_worst(net, many)
                self.check_coarsest(net, most, worst, coarsest)
                needed = [pair for pair in itertools.combinations(net.places, 2)
                          if most and not any(set(pair) <= set(part) for part in coarsest)]
                self.assertEqual(needed_pairs(net, many), tuple(needed))

    def check_coarsest(self, net, most, worst, coarsest):
        if most == 0:
            self.assertIsNone(coarsest)
        else:
            self.assertIn(coarsest, worst)
            self.assertTrue(all(is_coarser(coarsest, parting) for parting in worst), (net.ties, worst))

    def test_one_new_tie(self):
        for net in SMALL + tuple(mixed_nets(12, 191)):
            for many in (1, 2, 3):
                needed = needed_pairs(net, many)
                for pair in itertools.combinations(net.places, 2):
                    behind = max(count_lacks(net, many, (pair,)).values())
                    self.assertEqual(lack(net, many) - behind, int(pair in needed))

    def test_edges(self):
        self.assertEqual([lack(net, 10) for net in (POINT, BARE, TWO, SEVEN, CROWD)], [0, 20, 7, 39, 0])
        self.assertEqual((worst_partings(POINT, 3), coarsest_worst(POINT, 3), needed_pairs(POINT, 3)), (((("a",),),), None, ()))
        self.assertEqual(worst_partings(FULL, 2), (tuple((place,) for place in "abcd"), (("a", "b", "c", "d"),)))
        self.assertEqual(worst_partings(APART, 1), ((("a", "b"), ("c",), ("d",), ("e",)), (("a", "b"), ("c", "e"), ("d",))))
        self.assertEqual(coarsest_worst(APART, 1), (("a", "b"), ("c", "e"), ("d",)))
        self.assertEqual(lack(from_ties(("a", "b"), [("a", "b")] * 60), 10), 0)


class TestFillings(unittest.TestCase):
    def test_by_all_new_ties(self):
        for net in SMALL:
            for many in (1, 2):
                few = lack(net, many)
                if few < 4:
                    ways = [ties for ties in all_new(net, few) if count_trees_with(net, ties) >= many]
                    self.assertIn(filling(net, many), ways, net.ties)
                    if few:
                        self.assertFalse([ties for ties in all_new(net, few - 1) if count_trees_with(net, ties) >= many])
                    for ties in list(all_new(net, few))[:60]:
                        self.assertIs(is_filling(net, many, ties), ties in ways)

    def test_other_nets(self):
        for net in NETS:
            for many in (1, 2, 10):
                ties = filling(net, many)
                self.assertTrue(are_new(net, ties))
                self.assertEqual(len(ties), lack(net, many))
                self.assertEqual(max(count_lacks(net, many, ties).values()), 0)
                paper = filling_paper(net, many)
                self.assertTrue(is_right_paper(net, many, paper), (net.ties, many, paper))
                self.assertIs(is_filling_paper(net, many, paper), True)
                self.assertIs(is_filling(net, many, ties), True)
                if ties:
                    self.assertIs(is_filling(net, many, ties[1:]), False)
                    self.assertIs(is_filling(net, many, ties[:-1]), False)

    def test_any_number_up_to_a_hundred(self):
        for many in (30, 31, 100):
            self.assertIs(is_filling(RING, 2, (("a", "c"),) * (many - 1) + (("b", "d"),)), True)
            self.assertIs(is_filling(RING, 2, (("a", "c"),) * many), True)
            self.assertIs(is_filling(RING, 2, (("a", "b"),) * many), False)
        self.assertIs(is_filling(RING, 2, (("a", "c"),) * 101), False)
        self.assertIs(is_filling(RING, 2, (("a", "c"),) * 100 + (("b", "d"),)), False)
        self.assertIs(is_filling(FULL, 2, ()), True)
        self.assertIs(is_filling(FULL, 1, (("a", "b"),) * 100), True)
        self.assertIs(is_filling(FULL, 1, (("a", "b"),) * 101), False)

    def test_random_new_ties(self):
        numbers = random.Random(192)
        for net in NETS[::2]:
            pairs = list(itertools.combinations(net.places, 2))
            for many in (1, 2, 3) if pairs else ():
                for more in (0, 1, 3):
                    ties = tuple(sorted(numbers.choices(pairs, k=lack(net, many) + more)))
                    self.assertIs(is_filling(net, many, ties), max(count_lacks(net, many, ties).values()) == 0)

    def test_edges(self):
        self.assertEqual((filling(POINT, 4), filling_paper(POINT, 2)), ((), ((), ((), ()), (("a",),))))
        self.assertIs(is_filling(POINT, 10, ()), True)
        self.assertIs(is_filling_paper(POINT, 2, ((), ((), ()), (("a",),))), True)
        self.assertIs(is_filling_paper(POINT, 2, ((), ((),), (("a",),))), False)
        self.assertEqual(filling(Net(("a", "b")), 3), (("a", "b"),) * 3)
        self.assertEqual(len(filling(Net(tuple("abcdefg")), 10)), 60)
        self.assertIs(is_filling_paper(Net(tuple("abcdefg")), 10, filling_paper(Net(tuple("abcdefg")), 10)), True)
        self.assertEqual(filling(SIXTY, 10), ())

    def test_papers_with_more_than_the_parting_lacks(self):
        ties, trees, parting = filling_paper(PATH, 2)
        self.assertIs(is_filling_paper(PATH, 2, (ties + (("b", "c"),), trees, parting)), False)
        self.assertIs(is_filling_paper(PATH, 2, (ties, trees[::-1], parting)), True)
        self.assertIs(is_filling_paper(PATH, 2, ((("a", "c"),), ((("a", "b"), ("b", "c")), (("a", "b"), ("b", "c"))),
                                                 (("a", "b"), ("c",)))), False)
        # A parting that lacks as many, but is not the coarsest one.
        self.assertIs(is_filling_paper(PATH, 2, (ties, trees, (("a",), ("b",), ("c",)))), True)
        self.assertIs(is_filling_paper(FULL, 1, ((), (((("a", "b"), ("a", "c"), ("a", "d"))),), (tuple("abcd"),))), True)

    def test_one_thing_changed(self):
        for net, many in ((PATH, 2), (RING, 1), (RING, 2), (TWO, 4), (POINT, 2), (BARE, 1), (FULL, 2)):
            for value in changed_values(filling_paper(net, many)):
                self.assertIs(is_filling_paper(net, many, value), is_right_paper(net, many, value), (net.ties, many, value))
            for value in changed_values(filling(net, many)):
                right = are_new(net, value) and max(count_lacks(net, many, value).values()) == 0
                self.assertIs(is_filling(net, many, value), right, (net.ties, many, value))

    def test_plain_forests_of_a_net_alone_are_not_enough(self):
        self.assertTrue(is_plain_forest(FULL, (("a", "b"),)))
        self.assertIs(is_filling_paper(FULL, 1, ((), ((("a", "b"),),), (tuple("abcd"),))), False)


def count_trees_with(net, ties):
    return 10 if len(net.places) == 1 else count_trees(from_ties(net.places, tie_list(net) + list(ties)))


class TestRefusals(Refusals, unittest.TestCase):
    def test_nets_and_numbers(self):
        wrong = [(value, (InvalidNumber, value)) for value in ODD_VALUES + (0, 11, 60, -1)
                 if type(value) is not int or not 1 <= value <= 10]
        told = [("net", PATH, wrong_nets()), ("many", 2, wrong)]
        for call in (lack, worst_partings, coarsest_worst, needed_pairs, filling, filling_paper):
            self.check_refusals(call, told)
        for judge, value in ((is_filling, (("a", "c"),)), (is_filling, None), (is_filling_paper, filling_paper(PATH, 2)),
                             (is_filling_paper, None)):
            self.check_refusals(lambda net, many: judge(net, many, value), told)
        self.assertIsNone(raised(lack, PATH, 10))
        self.assertEqual(raised(lack, POINT, 11), (InvalidNumber, 11))
        self.assertEqual(raised(filling, None, 11), (InvalidNet, None))

    def test_judges_take_every_value(self):
        for net in (PATH, RING, TWO, POINT, FULL, BARE):
            for many in (1, 2):
                right = [value for value in ODD_VALUES
                         if are_new(net, value) and max(count_lacks(net, many, value).values()) == 0]
                self.check_judge(is_filling, net, many, right=right)
                self.check_judge(is_filling_paper, net, many)


if __name__ == "__main__":
    unittest.main()
