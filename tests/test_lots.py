"""Lots and partings: each function beside a second way of counting, and [3.1] and [3.2]."""

import inspect
import itertools
import unittest

from holdsfast.base.lots import (
    across, cut, cut_table, do_cross, inside, is_finer, is_lot, is_parting, lots, merged, met, parted_by, partings,
    rest,
)
from holdsfast.base.nets import Net
from tests.helpers import (
    APART, CROWD, EXAMPLES, FULL, HUB, PATH, POINT, RING, SEVEN, all_partings_of, all_subsets, count_cut,
    counting_lots, mixed_nets, small_nets, tie_list,
)

NETS = EXAMPLES + tuple(small_nets()[::3]) + tuple(mixed_nets(20, 2))
FEW_PLACES = tuple(net for net in NETS if len(net.places) <= 4)


def part_of(parting, place):
    return [set(part) for part in parting if place in part][0]


def within_parts(parting, other):
    """A second way to tell whether a parting is finer: each two places together here are together there."""
    return all(end in part_of(other, place) for part in parting for place in part for end in part)


def count_across(net, parting):
    return sum(1 for one, other in tie_list(net) if other not in part_of(parting, one))


def forests_of(net):
    """Find all forests as sets of tied pairs that have fewer pairs than places in each part of them."""
    pairs = list(net.ties)
    for chosen in all_subsets(pairs):
        whole = all(len({end for pair in part for end in pair}) > len(part) for part in all_subsets(chosen) if part)
        if whole:
            yield chosen


class TestLots(unittest.TestCase):
    def test_lots(self):
        for net in NETS:
            expected = tuple(sorted(counting_lots(net)))
            self.assertEqual(lots(net), expected)
            self.assertEqual(len(lots(net)), max(0, 2 ** len(net.places) - 2))
            self.assertEqual(list(cut_table(net).items()), [(lot, count_cut(net, lot)) for lot in expected])

    def test_cut_inside_rest(self):
        for net in NETS:
            for lot in counting_lots(net):
                others = tuple(place for place in net.places if place not in lot)
                self.assertEqual(rest(net, lot), others)
                self.assertEqual(cut(net, lot), count_cut(net, lot))
                self.assertEqual(cut(net, others), count_cut(net, lot))
                self.assertEqual(cut(net, lot) + inside(net, lot) + inside(net, others), net.size)
            for lot in all_subsets(net.places):
                self.assertEqual(inside(net, lot), sum(1 for tie in tie_list(net) if set(tie) <= set(lot)))
            self.assertEqual(inside(net, ()), 0)
            self.assertEqual(inside(net, net.places), net.size)

    def test_is_lot(self):
        for net in NETS:
            right = set(counting_lots(net))
            for size in range(0, 4):
                for value in itertools.product(net.places + ("q",), repeat=size):
                    self.assertIs(is_lot(net, value), value in right)
            self.assertIs(is_lot(net, net.places), False)

    def test_do_cross(self):
        for net in NETS:
            for one, other in itertools.product(counting_lots(net), repeat=2):
                x, y = set(one), set(other)
                expected = bool(x - y) and bool(y - x) and bool(x & y) and x | y != set(net.places)
                self.assertIs(do_cross(net, one, other), expected)
            for lot in counting_lots(net):
                self.assertIs(do_cross(net, lot, lot), False)

    def test_promise_of_two_lots(self):
        for net in (RING, FULL, HUB, PATH, APART, CROWD, SEVEN) + tuple(mixed_nets(5, 3)):
            table = cut_table(net)
            table[()] = table[net.places] = 0
            for one, other in itertools.product(table, repeat=2):
                x, y = set(one), set(other)
                both = table[one] + table[other]
                self.assertLessEqual(table[tuple(sorted(x & y))] + table[tuple(sorted(x | y))], both)
                self.assertLessEqual(table[tuple(sorted(x - y))] + table[tuple(sorted(y - x))], both)


class TestPartings(unittest.TestCase):
    def test_partings(self):
        for size, bell in ((1, 1), (2, 2), (3, 5), (4, 15), (5, 52), (6, 203), (7, 877)):
            places = tuple("abcdefg"[:size])
            found = list(partings(Net(places)))
            self.assertEqual(len(found), bell)
            self.assertEqual(found, sorted(set(found)))
            self.assertEqual(tuple(found), all_partings_of(places))

    def test_partings_is_a_generator(self):
        self.assertTrue(inspect.isgeneratorfunction(partings))
        rows = partings(PATH)
        self.assertEqual(next(rows), (("a",), ("b",), ("c",)))
        self.assertEqual(len(list(rows)), 4)
        self.assertEqual(list(partings(POINT)), [(("a",),)])

    def test_is_parting(self):
        for net in (POINT, PATH, Net(("a", "b"))):
            right = set(all_partings_of(net.places))
            rows = [()] + [tuple(row) for size in (1, 2, 3) for row in itertools.product(net.places, repeat=size)]
            for size in range(0, 4):
                for value in itertools.product(rows, repeat=size):
                    self.assertIs(is_parting(net, value), value in right)
        for parting in all_partings_of(SEVEN.places[:5]):
            self.assertIs(is_parting(APART, parting), True)
            self.assertIs(is_parting(APART, parting[::-1]), len(parting) == 1)
            self.assertIs(is_parting(APART, parting[1:]), False)
            self.assertIs(is_parting(APART, ((),) + parting), False)

    def test_across(self):
        for net in NETS:
            for parting in all_partings_of(net.places) if len(net) < 6 else [net.pieces]:
                self.assertEqual(across(net, parting), count_across(net, parting))
        for parting in partings(SEVEN):
            self.assertEqual(across(SEVEN, parting), count_across(SEVEN, parting))
        self.assertEqual(across(APART, APART.pieces), 0)
        self.assertEqual(across(SEVEN, (SEVEN.places,)), 0)
        self.assertEqual(across(SEVEN, tuple((place,) for place in SEVEN)), 21)

    def test_parted_by(self):
        for net in FEW_PLACES + (APART,):
            rows = all_partings_of(net.places)
            for forest in forests_of(net):
                holding = [row for row in rows if all(other in part_of(row, one) for one, other in forest)]
                finest = [row for row in holding if all(within_parts(row, other) for other in holding)]
                self.assertEqual([parted_by(net, forest)], finest)
                self.assertEqual(len(parted_by(net, forest)), len(net) - len(forest))

    def test_is_finer_met_merged(self):
        for net in (POINT, PATH, FULL, Net(("a", "b")), APART):
            rows = all_partings_of(net.places)
            for one, other in itertools.product(rows, repeat=2):
                self.assertIs(is_finer(net, one, other), within_parts(one, other))
                below = [row for row in rows if within_parts(row, one) and within_parts(row, other)]
                above = [row for row in rows if within_parts(one, row) and within_parts(other, row)]
                coarsest = [row for row in below if all(within_parts(less, row) for less in below)]
                finest = [row for row in above if all(within_parts(row, more) for more in above)]
                self.assertEqual([met(net, one, other)], coarsest)
                self.assertEqual([merged(net, one, other)], finest)

    def test_promise_of_two_partings(self):
        for net in (RING, FULL, HUB, PATH, APART, POINT, CROWD.without_place("a"), Net.full(tuple("abcde"), many=3)):
            counts = {parting: across(net, parting) for parting in partings(net)}
            for one, other in itertools.product(counts, repeat=2):
                below, above = met(net, one, other), merged(net, one, other)
                self.assertLessEqual(counts[below] + counts[above], counts[one] + counts[other])
                self.assertGreaterEqual(len(below) + len(above), len(one) + len(other))


if __name__ == "__main__":
    unittest.main()
