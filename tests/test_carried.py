"""What is carried over, beside a second way of counting over all lots, all streets and all ways of taking them back."""

import itertools
import unittest

from holdsfast.base.nets import Net
from holdsfast.errors import InvalidNet, InvalidOperation, UnknownPlace
from holdsfast.least.cuts import least_cut
from holdsfast.past.carried import (
    carried_net, carried_numbers, carried_tree, is_carried, is_carried_tree, is_taken_back, taken_back,
)
from holdsfast.past.pairs import whole_row
from holdsfast.trees.packed import most_trees
from holdsfast.ways.streets import folds_paper, most_folds
from tests.helpers import (
    APART, CROWD, EXAMPLES, FULL, HUB, HUGE, ODD_VALUES, PATH, POINT, RING, SEVEN, TWO, Refusals, changed_values, counting_lots,
    find_numbers, is_plain_tree_form, mixed_nets, raised, same, small_nets, some_streets, tie_list, turned_ways,
    wrong_nets,
)
from tests.test_past import beside, from_ties, is_right_row, plain_led
from tests.test_turned import count_entering, is_right_streets

BARE = Net(("a", "b", "c"))
ROW = (("a", "b"), ("a", "c"))
THRICE = Net(("a", "b", "c", "z"), {("a", "z"): 2, ("b", "z"): 2, ("c", "z"): 2})
LOOPED = Net(("a", "b", "z"), {("a", "b"): 2, ("a", "z"): 4})
NETS = EXAMPLES + tuple(small_nets()[::3]) + tuple(mixed_nets(30, 170)) + (THRICE, LOOPED)


def rows_of(nets):
    """Yield nets of two places or more with a place and a whole row at it."""
    for net in nets:
        for place in net.places if len(net.places) > 1 else ():
            row = whole_row(net, place)
            if row is not None:
                yield net, place, row


def plain_carried(net, place, row):
    for pair in row:
        net = plain_led(net, place, pair)
    others = tuple(other for other in net.places if other != place)
    return from_ties(others, [tie for tie in tie_list(net) if place not in tie])


def is_right_carried_tree(net, place, value):
    """Judge triples by walking: at each step on, the least number met so far is kept."""
    others = [other for other in net.places if other != place]
    if not is_plain_tree_form(others, value):
        return False
    told = beside(net, place)
    for start in others:
        found = {start: None}
        for _ in others:
            for one, other, many in value:
                for near, far in ((one, other), (other, one)):
                    if near in found and far not in found:
                        found[far] = many if found[near] is None else min(many, found[near])
        if any(told[start, far] != found[far] for far in found if start < far):
            return False
    return True


def all_taken_back(place, row, streets):
    """Take streets back in all ways: for each pair of the row, one after the other, a street of either way."""
    if not row:
        return [{step: many for step, many in streets.items() if many}]
    (one, other), found = row[0], []
    for near, far in ((one, other), (other, one)) if one != other else ((one, one),):
        if near == far or streets.get((near, far), 0) > 0:
            turned = dict(streets)
            if near != far:
                turned[near, far] -= 1
            for step in ((near, place), (place, far)):
                turned[step] = turned.get(step, 0) + 1
            found += all_taken_back(place, row[1:], turned)
    return found


class TestCarried(unittest.TestCase):
    def test_numbers_and_trees(self):
        for net in NETS:
            for place in net.places if len(net.places) > 1 else ():
                told = beside(net, place)
                self.assertTrue(same(carried_numbers(net, place), told))
                tree = carried_tree(net, place)
                self.assertTrue(is_right_carried_tree(net, place, tree), (net.ties, place, tree))
                self.assertIs(is_carried_tree(net, place, tree), True)

    def test_nets(self):
        for net, place, row in rows_of(NETS):
            carried = carried_net(net, place, row)
            self.assertEqual(carried, plain_carried(net, place, row))
            self.assertEqual(find_numbers(carried), beside(net, place))
            self.assertIs(is_carried(net, place, carried), True)
            self.assertEqual(carried_net(net, place, row[::-1]), carried)
            if len(carried) > 1:
                self.assertGreaterEqual(least_cut(carried) // 2, least_cut(net) // 2)

    def test_any_net_with_the_numbers(self):
        for net in (HUB, RING, PATH, FULL, TWO, LOOPED):
            for place in net.places:
                others = tuple(other for other in net.places if other != place)
                pairs = list(itertools.combinations(others, 2))
                right = 0
                for counts in itertools.product(range(5), repeat=len(pairs)):
                    value = Net(others, {pair: many for pair, many in zip(pairs, counts) if many})
                    expected = find_numbers(value) == beside(net, place)
                    self.assertIs(is_carried(net, place, value), expected)
                    right += expected
                self.assertGreater(right, 0, (net.ties, place))
                self.assertIs(is_carried(net, place, net), False)
                self.assertIs(is_carried(net, place, net.without_place(place).with_place("q")), False)

    def test_any_tree_with_the_numbers(self):
        for net in (HUB, RING, FULL, PATH, APART, LOOPED):
            for place in net.places[:2] + net.places[-1:]:
                others = [other for other in net.places if other != place]
                pairs = list(itertools.combinations(others, 2))
                most = max(beside(net, place).values()) + 2
                for kept in itertools.combinations(pairs, len(others) - 1):
                    for counts in itertools.product(range(most), repeat=len(kept)):
                        value = tuple(pair + (many,) for pair, many in zip(kept, counts))
                        right = is_right_carried_tree(net, place, value)
                        self.assertIs(is_carried_tree(net, place, value), right, (net.ties, place, value))

    def test_edges(self):
        self.assertEqual((carried_numbers(TWO, "a"), carried_tree(TWO, "b")), ({}, ()))
        self.assertIs(is_carried(TWO, "a", Net(("b",))), True)
        self.assertIs(is_carried(TWO, "a", Net(("a",))), False)
        self.assertIs(is_carried_tree(TWO, "a", ()), True)
        self.assertEqual(carried_net(TWO.joined("a", "b"), "a", (("b", "b"), ("b", "b"))), Net(("b",)))
        self.assertEqual(carried_net(BARE, "b", ()), Net(("a", "c")))
        self.assertEqual(carried_tree(BARE, "a"), (("b", "c", 0),))
        crowd = whole_row(CROWD, "a")
        self.assertEqual(set(find_numbers(carried_net(CROWD, "a", crowd)).values()), {20})

    def test_trees_that_share_no_tie_are_not_carried(self):
        row = (("a", "b"), ("a", "c"), ("b", "c"))
        self.assertEqual((most_trees(THRICE), most_trees(carried_net(THRICE, "z", row))), (2, 1))

    def test_one_thing_changed(self):
        for net, place in ((HUB, "z"), (RING, "b"), (APART, "a"), (TWO, "a"), (FULL, "c")):
            for value in changed_values(carried_tree(net, place)):
                right = is_right_carried_tree(net, place, value)
                self.assertIs(is_carried_tree(net, place, value), right, (net.ties, place, value))


class TestTakenBack(unittest.TestCase):
    def test_small_nets_by_all_ways(self):
        for net, place, row in rows_of((RING, HUB, PATH, LOOPED, THRICE, BARE) + tuple(small_nets()[::4])):
            carried = plain_carried(net, place, row)
            for streets in list(turned_ways(carried))[::3]:
                self.check_all(net, place, row, streets)

    def test_other_nets(self):
        for seed, (net, place, row) in enumerate(rows_of(mixed_nets(40, 171))):
            if len(row) < 6:
                for streets in some_streets(plain_carried(net, place, row), 1, seed):
                    self.check_all(net, place, row, streets)

    def check_all(self, net, place, row, streets):
        before = dict(streets)
        rows = all_taken_back(place, row, streets)
        found = taken_back(net, place, row, streets)
        self.assertEqual(streets, before)
        self.assertIn(found, rows)
        self.assertEqual(list(found), sorted(found))
        self.assertTrue(is_right_streets(net, found))
        back = {step: streets[step] for step in list(streets)[::-1]}
        self.assertTrue(same(taken_back(net, place, row[::-1], back), found))
        for value in rows[:8] + some_streets(net, 2, len(rows)):
            right = value in rows
            self.assertIs(is_taken_back(net, place, row, streets, value), right, (net.ties, place, row, streets, value))

    def test_all_streets_are_judged(self):
        for net, place, row in ((RING, "b", (("a", "c"),)), (HUB, "z", ROW), (LOOPED, "z", (("a", "a"), ("a", "a"))),
                                (THRICE.joined("a", "b"), "z", ROW + (("b", "c"),)), (PATH, "a", (("b", "b"),)),
                                (PATH.times(2), "b", (("a", "c"), ("a", "a"), ("a", "c")))):
            carried = plain_carried(net, place, row)
            for streets in turned_ways(carried):
                rows = all_taken_back(place, row, streets)
                for value in turned_ways(net):
                    self.assertIs(is_taken_back(net, place, row, streets, value), value in rows, (streets, value))

    def test_each_lot_is_entered_as_often(self):
        for net, place, row in rows_of(mixed_nets(40, 172) + [SEVEN, SEVEN.times(2), CROWD, FULL.times(10), THRICE]):
            carried = carried_net(net, place, row)
            many = most_folds(carried)
            if many and len(row) >= 1:
                found = taken_back(net, place, row, folds_paper(carried, many)[1])
                self.assertTrue(is_right_streets(net, found))
                for lot in counting_lots(net):
                    alone = lot == (place,) or len(lot) == len(net) - 1 and place not in lot
                    entered = count_entering(found, lot)
                    self.assertTrue(entered == len(row) if alone else entered >= many, (net.ties, place, lot))

    def test_edges(self):
        self.assertEqual(taken_back(TWO.joined("a", "b"), "b", (("a", "a"), ("a", "a")), {}), {("a", "b"): 2, ("b", "a"): 2})
        self.assertEqual(taken_back(BARE, "a", (), {}), {})
        self.assertIs(is_taken_back(BARE, "a", (), {}, {}), True)
        self.assertIs(is_taken_back(RING, "b", (("a", "c"),), {("a", "c"): 1, ("c", "d"): 1, ("a", "d"): 1},
                                    {("a", "b"): 1, ("b", "c"): 1, ("c", "d"): 1, ("d", "a"): 1}), False)

    def test_one_thing_changed(self):
        for net, place, row in ((RING, "b", (("a", "c"),)), (HUB, "z", ROW), (LOOPED, "z", (("a", "a"), ("a", "a")))):
            streets = some_streets(plain_carried(net, place, row), 1, 5)[0]
            rows = all_taken_back(place, row, streets)
            for value in changed_values(taken_back(net, place, row, streets)):
                right = is_right_streets(net, value) and value in rows
                self.assertIs(is_taken_back(net, place, row, streets, value), right, value)


class TestRefusals(Refusals, unittest.TestCase):
    def told(self):
        places = [(value, (UnknownPlace, value)) for value in ODD_VALUES if value not in ("a", "b")]
        return [("net", HUB, wrong_nets()), ("place", "z", places)]

    def rows(self):
        wrong = [(value, (InvalidOperation, None)) for value in ODD_VALUES if not is_right_row(HUB, "z", value)]
        wrong += [(value, (InvalidOperation, None)) for value in (
            ROW[:1], ROW + ROW[:1], (("a", "a"), ("b", "c")), (("b", "a"), ("a", "c")), list(ROW), (["a", "b"], ("a", "c")))]
        return self.told() + [("row", ROW, wrong)]

    def test_places(self):
        for call in (carried_numbers, carried_tree):
            self.check_refusals(call, self.told())
        for value in (None, carried_tree(HUB, "z"), carried_net(HUB, "z", ROW)):
            for judge in (is_carried, is_carried_tree):
                self.check_refusals(lambda net, place: judge(net, place, value), self.told())

    def test_rows(self):
        self.check_refusals(carried_net, self.rows())

    def test_streets(self):
        right = {("a", "b"): 1, ("b", "a"): 1, ("a", "c"): 1}
        wrong = [(value, (InvalidOperation, None)) for value in ODD_VALUES + (
            {("a", "b"): 2}, {**right, ("a", "c"): True}, {**right, ("a", "z"): 1}, {("a", "b"): 3, ("a", "c"): 1}, list(right),
            {("a", "z"): 2, ("b", "z"): 1, ("c", "z"): 1, ("a", "b"): 1}, {**right, ("c", "a"): HUGE})]
        told = self.rows() + [("streets", right, wrong)]
        self.check_refusals(taken_back, told)
        for value in (None, taken_back(HUB, "z", ROW, right)):
            self.check_refusals(lambda net, place, row, streets: is_taken_back(net, place, row, streets, value), told)

    def test_one_place(self):
        calls = ((carried_numbers, ()), (is_carried, (None,)), (carried_tree, ()), (is_carried_tree, ((),)),
                 (carried_net, ((),)), (taken_back, ((), {})), (is_taken_back, ((), {}, {})))
        for call, more in calls:
            self.assertEqual(raised(call, POINT, "a", *more), (InvalidOperation, None), call)
            self.assertEqual(raised(call, POINT, "b", *more), (UnknownPlace, "b"), call)
            self.assertEqual(raised(call, None, "a", *more), (InvalidNet, None), call)
        for call in (carried_net, lambda *given: taken_back(*given, {})):
            self.assertEqual(raised(call, POINT, "a", None), (InvalidOperation, None))

    def test_judges_take_every_value(self):
        for net in (HUB, RING, PATH, BARE):
            place = net.places[-1]
            right = [value for value in ODD_VALUES if is_right_carried_tree(net, place, value)]
            self.check_judge(is_carried_tree, net, place, right=right)
            self.check_judge(is_carried, net, place)
        self.check_judge(is_carried, Net(("b", "q")), "b", right=[Net(("q",))])
        self.check_judge(is_taken_back, HUB, "z", ROW, {("a", "b"): 2, ("a", "c"): 1})
        self.check_judge(is_taken_back, BARE, "a", (), {}, right=[{}])


if __name__ == "__main__":
    unittest.main()
