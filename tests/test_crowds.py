"""Crowding, beside a second way of counting over all lots and all partings."""

import functools
import unittest
from fractions import Fraction

from holdsfast.base.nets import Net
from holdsfast.errors import InvalidOperation
from holdsfast.part.crowds import (
    crowded_lots, crowding, crowding_paper, greatest_crowds, is_crowding_paper, layers,
)
from holdsfast.part.strength import coarsest_at, critical_levels
from tests.helpers import (
    APART, CROWD, EXAMPLES, FULL, HUB, PATH, POINT, RING, SEVEN, TWO, Refusals, all_subsets, are_plain_forests,
    changed_values, count_inside, is_plain_lot, is_two, mixed_nets, same, small_nets, tie_list, wrong_nets,
)
from tests.test_strength import as_pair, by_ties, coarsest_of, count_levels, least_partings

NETS = tuple(net for net in EXAMPLES + tuple(small_nets()[::3]) + tuple(mixed_nets(25, 130)) if len(net.places) > 1)
BARE = Net(("a", "b", "c"))
KITE = Net(tuple("abcd"), {("a", "b"): 1, ("a", "c"): 1, ("b", "c"): 1, ("c", "d"): 2})
SIXTY = SEVEN.times(2).joined("a", "b", 6).joined("c", "d", 6).joined("e", "f", 5)
PAPER = (("a", "b"), ((("a", "b"), ("b", "c")), (("a", "b"),)))


def all_fractions(net):
    return {lot: Fraction(count_inside(net, lot), len(lot) - 1) for lot in all_subsets(net.places) if len(lot) > 1}


def all_crowded(net):
    told = all_fractions(net)
    return sorted(lot for lot in told if told[lot] == max(told.values()))


def is_right_paper(net, value):
    if not is_two(value) or not is_plain_lot(net, value[0]) or value[0] not in all_crowded(net):
        return False
    told = all_fractions(net)[value[0]]
    if not are_plain_forests(net, value[1], many=told.numerator, times=told.denominator):
        return False
    return sum(len(forest) for forest in value[1]) == told.denominator * len(tie_list(net))


class TestCrowding(unittest.TestCase):
    def test_crowding(self):
        for net in NETS:
            most = max(all_fractions(net).values())
            self.assertTrue(same(crowding(net), as_pair(most)), net.ties)
            rows = all_crowded(net)
            self.assertEqual(crowded_lots(net), tuple(rows))
            greatest = [lot for lot in rows if not any(set(lot) < set(other) for other in rows)]
            self.assertEqual(greatest_crowds(net), tuple(greatest))
            self.assertEqual(len({place for lot in greatest for place in lot}), sum(len(lot) for lot in greatest))

    def test_promise_of_levels(self):
        for net in NETS:
            level = critical_levels(net)[-1]
            self.assertEqual(crowding(net), level)
            if level[0]:
                parts = [part for part in coarsest_at(net, level) if len(part) > 1]
                self.assertEqual(greatest_crowds(net), tuple(parts))

    def test_edges(self):
        self.assertIsNone(crowding(POINT))
        self.assertEqual([crowding(net) for net in (BARE, APART, TWO, SEVEN, CROWD)], [(0, 1), (2, 1), (3, 1), (7, 2), (12, 1)])
        self.assertEqual(crowded_lots(BARE), (("a", "b"), ("a", "b", "c"), ("a", "c"), ("b", "c")))
        self.assertEqual(greatest_crowds(BARE), (("a", "b", "c"),))
        self.assertEqual(crowding_paper(BARE)[1], ())
        self.assertEqual(greatest_crowds(APART), (("a", "b"),))
        self.assertEqual(crowding(Net(("a", "b")).joined("a", "b", 60)), (60, 1))
        two_crowds = Net(tuple("abcd"), {("a", "b"): 2, ("b", "c"): 1, ("c", "d"): 2})
        self.assertEqual((crowded_lots(two_crowds), greatest_crowds(two_crowds)), ((("a", "b"), ("c", "d")),) * 2)

    def test_papers(self):
        for net in NETS:
            lot, forests = crowding_paper(net)
            self.assertTrue(is_right_paper(net, (lot, forests)), (net.ties, lot, forests))
            self.assertIs(is_crowding_paper(net, (lot, forests)), True)
            self.assertIs(is_crowding_paper(net, (lot, forests[::-1])), True)
            self.assertIs(is_crowding_paper(net, (lot, forests + ((),))), False)
            self.assertIs(is_crowding_paper(net, (lot, forests[1:])), not forests)
            crowded = all_crowded(net)
            for other in all_subsets(net.places):
                self.assertIs(is_crowding_paper(net, (other, forests)), other in crowded, (net.ties, other))

    def test_one_thing_changed(self):
        self.assertIs(is_crowding_paper(PATH, PAPER), True)
        for net in (PATH, RING, HUB, KITE, BARE, TWO):
            for value in changed_values(crowding_paper(net)):
                self.assertIs(is_crowding_paper(net, value), is_right_paper(net, value), value)
        self.assertIs(is_crowding_paper(PATH, (("a", "b"), ((("a", "b"),), (("a", "b"),)))), False)
        self.assertIs(is_crowding_paper(PATH, (("a", "b"), PAPER[1] * 2)), False)
        self.assertIs(is_crowding_paper(PATH, (("b", "c"), ((("a", "b"), ("b", "c")),))), False)

    def test_sixty_ties(self):
        told = as_pair(max(all_fractions(SIXTY).values()))
        self.assertEqual((crowding(SIXTY), len(crowding_paper(SIXTY)[1])), (told, told[0]))
        self.assertTrue(is_right_paper(SIXTY, crowding_paper(SIXTY)))


class TestLayers(unittest.TestCase):
    def test_layers(self):
        for net in NETS:
            table = by_ties(net)
            rows = [(level, coarsest_of(least_partings(table, level))) for level in count_levels(table)]
            expected = {
                pair: as_pair(max(level for level, parting in rows if any(set(pair) <= set(part) for part in parting)))
                for pair in net.pairs if pair in net.ties
            }
            self.assertTrue(same(layers(net), expected), (net.ties, expected))

    def test_edges(self):
        self.assertEqual((layers(BARE), layers(TWO)), ({}, {("a", "b"): (3, 1)}))
        self.assertEqual(layers(APART), {("a", "b"): (2, 1), ("c", "e"): (1, 1)})
        self.assertEqual(list(layers(KITE).items()), [
            (("a", "b"), (3, 2)), (("a", "c"), (3, 2)), (("b", "c"), (3, 2)), (("c", "d"), (2, 1))])


class TestRefusals(Refusals, unittest.TestCase):
    def test_nets(self):
        self.check_refusals(crowding, [("net", PATH, wrong_nets())])
        wrong = wrong_nets() + [(POINT, (InvalidOperation, None))]
        for call in (crowded_lots, greatest_crowds, crowding_paper, layers):
            self.check_refusals(call, [("net", PATH, wrong)])
        for value in (None, PAPER, (("a",), ())):
            self.check_refusals(lambda net: is_crowding_paper(net, value), [("net", PATH, wrong)])

    def test_judge_takes_every_value(self):
        for net in (PATH, HUB, TWO, BARE, FULL):
            self.check_judge(functools.partial(is_crowding_paper, net))


if __name__ == "__main__":
    unittest.main()
