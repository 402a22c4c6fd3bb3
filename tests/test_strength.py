"""Strength and critical levels, beside a second way of counting over all partings."""

import functools
import unittest
from fractions import Fraction

from holdsfast.base.nets import Net
from holdsfast.errors import InvalidNet, InvalidNumber, InvalidOperation
from holdsfast.part.strength import (
    chain, coarsest_at, critical_levels, finest_at, is_strength_paper, strength, strength_paper, weakest,
)
from tests.helpers import (
    APART, CROWD, EXAMPLES, FULL, HUB, HUGE, ODD_VALUES, PATH, POINT, RING, SEVEN, TWO, Refusals, all_partings_of,
    are_plain_forests, changed_values, count_across, count_pieces, is_plain_parting, is_plain_tree, is_two, mixed_nets,
    raised, same, small_nets, wrong_nets,
)

NETS = tuple(net for net in EXAMPLES + tuple(small_nets()[::3]) + tuple(mixed_nets(25, 120)) if len(net.places) > 1)
BARE = Net(("a", "b", "c"))
# The levels are 3/2 and 2: as pairs they would stand the other way round.
KITE = Net(tuple("abcd"), {("a", "b"): 1, ("a", "c"): 1, ("b", "c"): 1, ("c", "d"): 2})
SIXTY = SEVEN.times(2).joined("a", "b", 6).joined("c", "d", 6).joined("e", "f", 5)
PAPER = ((("a", "b"), ("c",)), ((("a", "b"), ("b", "c")),))


def by_ties(net):
    return {parting: count_across(net, parting) for parting in all_partings_of(net.places)}


def as_pair(value):
    return (value.numerator, value.denominator)


def is_finer_than(one, other):
    return all(any(set(part) <= set(more) for more in other) for part in one)


def least_partings(table, level):
    worth = {parting: table[parting] - level * len(parting) for parting in table}
    least = min(worth.values())
    return [parting for parting in worth if worth[parting] == least]


def finest_of(rows):
    found = [row for row in rows if all(is_finer_than(row, other) for other in rows)]
    assert len(found) == 1
    return found[0]


def coarsest_of(rows):
    found = [row for row in rows if all(is_finer_than(other, row) for other in rows)]
    assert len(found) == 1
    return found[0]


def count_levels(table):
    """Find the critical levels among all at which some two numbers of parts could be equally good."""
    fewest = {}
    for parting, many in table.items():
        fewest[len(parting)] = min(many, fewest.get(len(parting), many))
    tried = {Fraction(fewest[more] - fewest[less], more - less) for less in fewest for more in fewest if less < more}
    return sorted(level for level in tried if len(least_partings(table, level)) > 1)


def count_strength(table):
    return min(Fraction(table[parting], len(parting) - 1) for parting in table if len(parting) > 1)


def is_right_paper(net, value):
    if not is_two(value) or not is_plain_parting(net, value[0]) or len(value[0]) < 2 or type(value[1]) is not tuple:
        return False
    told = Fraction(count_across(net, value[0]), len(value[0]) - 1)
    if len(value[1]) != told.numerator or not all(is_plain_tree(net, tree) for tree in value[1]):
        return False
    return are_plain_forests(net, value[1], times=told.denominator)


class TestStrength(unittest.TestCase):
    def test_strength(self):
        for net in NETS:
            table = by_ties(net)
            least = count_strength(table)
            self.assertTrue(same(strength(net), as_pair(least)), net.ties)
            rows = [parting for parting in table if len(parting) > 1 and table[parting] == least * (len(parting) - 1)]
            self.assertEqual(weakest(net), finest_of(rows))

    def test_edges(self):
        self.assertIsNone(strength(POINT))
        self.assertEqual([strength(net) for net in (BARE, APART, TWO, SEVEN, CROWD)], [(0, 1), (0, 1), (3, 1), (7, 2), (12, 1)])
        self.assertEqual((weakest(BARE), weakest(APART)), ((("a",), ("b",), ("c",)), (("a", "b"), ("c", "e"), ("d",))))
        self.assertEqual(strength(Net(("a", "b")).joined("a", "b", 60)), (60, 1))
        self.assertEqual(weakest(RING), (("a",), ("b",), ("c",), ("d",)))
        self.assertEqual((strength(KITE), weakest(KITE)), ((3, 2), (("a",), ("b",), ("c", "d"))))

    def test_papers(self):
        for net in NETS:
            parting, trees = strength_paper(net)
            self.assertTrue(is_right_paper(net, (parting, trees)), (net.ties, parting, trees))
            self.assertEqual(Fraction(count_across(net, parting), len(parting) - 1), count_strength(by_ties(net)))
            self.assertIs(is_strength_paper(net, (parting, trees)), True)
            self.assertIs(is_strength_paper(net, (parting, trees[::-1])), True)
            if trees:
                self.assertIs(is_strength_paper(net, (parting, trees[1:])), False)
            else:
                self.assertIs(is_strength_paper(net, (parting, ((),))), False)

    def test_other_partings(self):
        for net in [net for net in NETS if len(net.places) < 6][::3]:
            table = by_ties(net)
            trees = strength_paper(net)[1]
            for parting in table:
                expected = is_right_paper(net, (parting, trees))
                self.assertIs(is_strength_paper(net, (parting, trees)), expected, (net.ties, parting))
                if expected:
                    self.assertEqual(Fraction(table[parting], len(parting) - 1), count_strength(table))

    def test_papers_without_trees(self):
        for net in (BARE, APART):
            self.assertEqual(strength_paper(net)[1], ())
            for parting in all_partings_of(net.places):
                right = len(parting) > 1 and is_finer_than(count_pieces(net), parting)
                self.assertIs(is_strength_paper(net, (parting, ())), right, parting)
        self.assertIs(is_strength_paper(PATH, ((("a", "b", "c"),), ())), False)

    def test_one_thing_changed(self):
        self.assertIs(is_strength_paper(PATH, PAPER), True)
        for net in (PATH, RING, KITE, BARE, TWO):
            for value in changed_values(strength_paper(net)):
                self.assertIs(is_strength_paper(net, value), is_right_paper(net, value), value)
        self.assertIs(is_strength_paper(PATH, (PAPER[0], PAPER[1] * 2)), False)
        self.assertIs(is_strength_paper(PATH, ((("a",), ("b",), ("c",)), PAPER[1])), False)

    def test_sixty_ties(self):
        self.assertEqual(SIXTY.size, 59)
        told, table = strength(SIXTY), by_ties(SIXTY)
        self.assertEqual(told, as_pair(count_strength(table)))
        self.assertEqual(len(strength_paper(SIXTY)[1]), told[0])
        self.assertTrue(is_right_paper(SIXTY, strength_paper(SIXTY)))


class TestLevels(unittest.TestCase):
    def test_levels(self):
        for net in NETS:
            table = by_ties(net)
            levels = count_levels(table)
            self.assertTrue(same(critical_levels(net), tuple(as_pair(level) for level in levels)), net.ties)
            between = [(one + other) / 2 for one, other in zip(levels, levels[1:])]
            for level in levels + between + [levels[0] - 1, levels[-1] + 1, levels[0] - Fraction(1, 7),
                                             levels[-1] + Fraction(1, 7), Fraction(-3, 2), Fraction(10 ** 11)]:
                rows = least_partings(table, level)
                self.assertEqual(len(rows) > 1, level in levels)
                self.assertEqual(finest_at(net, as_pair(level)), finest_of(rows))
                self.assertEqual(coarsest_at(net, as_pair(level)), coarsest_of(rows))
            whole = (net.places,)
            self.assertEqual(chain(net), (whole,) + tuple(finest_of(least_partings(table, level)) for level in levels))

    def test_promises(self):
        for net in NETS:
            steps, levels = chain(net), critical_levels(net)
            self.assertEqual(levels[0], strength(net))
            self.assertEqual((steps[0], steps[-1]), ((net.places,), tuple((place,) for place in net.places)))
            for before, level, now in zip(steps, levels, steps[1:]):
                self.assertTrue(is_finer_than(now, before))
                self.assertEqual((coarsest_at(net, level), finest_at(net, level)), (before, now))

    def test_edges(self):
        self.assertEqual((critical_levels(BARE), chain(BARE)), (((0, 1),), ((("a", "b", "c"),), (("a",), ("b",), ("c",)))))
        self.assertEqual(critical_levels(APART), ((0, 1), (1, 1), (2, 1)))
        self.assertEqual(critical_levels(KITE), ((3, 2), (2, 1)))
        self.assertEqual(finest_at(PATH, (-1, 2)), (("a", "b", "c"),))
        self.assertEqual(coarsest_at(PATH, (0, 1)), (("a", "b", "c"),))
        self.assertEqual(finest_at(TWO, (3, 1)), (("a",), ("b",)))
        self.assertEqual(coarsest_at(TWO, (3, 1)), (("a", "b"),))
        self.assertEqual(coarsest_at(BARE, (1, 10 ** 11)), (("a",), ("b",), ("c",)))


class TestRefusals(Refusals, unittest.TestCase):
    def test_nets(self):
        one_place = [(POINT, (InvalidOperation, None))]
        self.check_refusals(strength, [("net", PATH, wrong_nets())])
        for call in (weakest, strength_paper, critical_levels, chain):
            self.check_refusals(call, [("net", PATH, wrong_nets() + one_place)])
        for value in (None, PAPER, ((("a",),), ())):
            self.check_refusals(lambda net: is_strength_paper(net, value), [("net", PATH, wrong_nets() + one_place)])

    def test_levels(self):
        wrong = [(value, (InvalidNumber, value)) for value in ODD_VALUES + (
            (4, 2), (0, 2), (1, 0), (1, -1), (True, 1), (1, True), (1, 1, 1), [1, 2], ("1", 2), (1,), (0, 0), (-2, 2), (1, None),
            HUGE) if not same(value, (1, 2))]
        told = [("net", PATH, wrong_nets()), ("level", (3, 2), wrong)]
        for call in (finest_at, coarsest_at):
            self.check_refusals(call, told)
            self.assertEqual(raised(call, POINT, (4, 2)), (InvalidNumber, (4, 2)))
            self.assertEqual(raised(call, POINT, (1, 2)), (InvalidOperation, None))
            self.assertEqual(raised(call, None, (1, 2)), (InvalidNet, None))

    def test_judge_takes_every_value(self):
        for net in (PATH, HUB, TWO, BARE, FULL):
            self.check_judge(functools.partial(is_strength_paper, net))


if __name__ == "__main__":
    unittest.main()
