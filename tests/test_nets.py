"""Nets: what they are made of, what they tell, and the nets that their methods make."""

import itertools
import unittest

from holdsfast.base import nets
from holdsfast.base.nets import Net
from tests.helpers import (
    APART, CROWD, EXAMPLES, FULL, HUB, HUGE, ODD_VALUES, PATH, POINT, RING, SEVEN, TWO, all_subsets, count_cut,
    count_pieces, mixed_nets, small_nets, tie_list,
)

LETTERS = ("a", "b", "c", "d", "e", "f", "g")
NETS = EXAMPLES + tuple(small_nets()[::5]) + tuple(mixed_nets(25, 1))


class TestMaking(unittest.TestCase):
    def test_bounds(self):
        self.assertEqual((nets.MAX_PLACES, nets.MAX_TIES, nets.MAX_MADE), (7, 30, 60))

    def test_one_place_and_seven(self):
        self.assertEqual(Net(("a",)).places, ("a",))
        self.assertEqual(Net(("g", "f", "e", "d", "c", "b", "a")).places, LETTERS)
        self.assertEqual(Net(("abcdefgh", "zz")).places, ("abcdefgh", "zz"))

    def test_order_of_places_and_ties_means_nothing(self):
        one = Net(("c", "a", "b"), {("b", "c"): 1, ("a", "b"): 2})
        self.assertEqual(one, PATH)
        self.assertEqual(list(one.ties), [("a", "b"), ("b", "c")])
        self.assertEqual(list(one.degrees), ["a", "b", "c"])

    def test_no_ties(self):
        for net in (Net(("b", "a")), Net(("b", "a"), None), Net(("b", "a"), {}), Net(places=("b", "a"), ties={})):
            self.assertEqual((net.ties, net.size, net.pieces, net.is_joined), ({}, 0, (("a",), ("b",)), False))

    def test_thirty_ties(self):
        self.assertEqual(Net(("a", "b"), {("a", "b"): 30}).size, 30)
        self.assertEqual(Net(("a", "b", "c"), {("a", "b"): 29, ("a", "c"): 1}).size, 30)

    def test_arguments_are_copied(self):
        ties = {("a", "b"): 1}
        net = Net(("a", "b"), ties)
        ties[("a", "b")] = 5
        self.assertEqual(net.ties, {("a", "b"): 1})
        self.assertEqual(ties, {("a", "b"): 5})

    def test_full(self):
        for size in range(1, 8):
            net = Net.full(LETTERS[:size][::-1])
            self.assertEqual(net.ties, {pair: 1 for pair in itertools.combinations(LETTERS[:size], 2)})
        self.assertEqual(Net.full(("b", "a"), many=30).ties, {("a", "b"): 30})
        self.assertEqual(Net.full(("b", "a", "c"), many=10).size, 30)
        self.assertEqual(Net.full(("a",), many=HUGE), POINT)

    def test_ring(self):
        self.assertEqual(Net.ring(("a",), many=HUGE), POINT)
        self.assertEqual(Net.ring(("b", "a")).ties, {("a", "b"): 1})
        self.assertEqual(Net.ring(("b", "a"), many=30).ties, {("a", "b"): 30})
        self.assertEqual(Net.ring(("c", "a", "b")).ties, {("a", "b"): 1, ("a", "c"): 1, ("b", "c"): 1})
        crossed = Net.ring(("a", "c", "b", "d"), many=2)
        self.assertEqual(crossed.ties, {("a", "c"): 2, ("a", "d"): 2, ("b", "c"): 2, ("b", "d"): 2})
        self.assertEqual(Net.ring(LETTERS, many=4).size, 28)
        self.assertEqual(Net.ring(LETTERS).degrees, {place: 2 for place in LETTERS})


class TestTelling(unittest.TestCase):
    def test_against_ties_one_by_one(self):
        for net in NETS:
            rows = tie_list(net)
            self.assertEqual(net.size, len(rows))
            self.assertEqual(net.pairs, tuple(itertools.combinations(net.places, 2)))
            degrees = {place: sum(1 for tie in rows if place in tie) for place in net.places}
            self.assertEqual(list(net.degrees.items()), list(degrees.items()))
            self.assertEqual(net.odd, tuple(place for place in net.places if degrees[place] % 2))
            self.assertEqual(net.pieces, count_pieces(net))
            self.assertIs(net.is_joined, len(count_pieces(net)) == 1)
            self.assertEqual(str(net), f"net of {len(net.places)} places, {len(rows)} ties")
            for one, other in net.pairs:
                self.assertEqual(net.tied(one, other), rows.count((one, other)))
                self.assertEqual(net.tied(other, one), rows.count((one, other)))
            for place in net.places:
                tied = {other for tie in rows if place in tie for other in tie} - {place}
                self.assertEqual(net.near(place), tuple(sorted(tied)))
                self.assertEqual(degrees[place], count_cut(net, (place,)))

    def test_properties_cannot_be_set(self):
        for name in ("places", "ties", "size", "pairs", "degrees", "odd", "pieces", "is_joined"):
            with self.assertRaises(AttributeError):
                setattr(HUB, name, None)
        self.assertEqual(HUB.size, 5)

    def test_kinds_of_values(self):
        for net in NETS:
            kinds = (tuple, dict, int, tuple, dict, tuple, tuple, bool)
            found = (net.places, net.ties, net.size, net.pairs, net.degrees, net.odd, net.pieces, net.is_joined)
            self.assertEqual(tuple(type(value) for value in found), kinds)

    def test_what_is_returned_gives_no_access(self):
        net = Net(("a", "b", "c"), {("a", "b"): 2, ("b", "c"): 1})
        net.ties[("a", "c")] = 4
        net.ties.clear()
        net.degrees.clear()
        self.assertEqual(net, PATH)
        self.assertEqual(net.ties, {("a", "b"): 2, ("b", "c"): 1})
        self.assertEqual(net.degrees, {"a": 2, "b": 3, "c": 1})

    def test_length_and_members(self):
        for net in NETS:
            self.assertEqual(len(net), len(net.places))
            self.assertEqual(list(net), list(net.places))
            self.assertEqual([place for place in net], sorted(net.places))
            for value in ODD_VALUES:
                self.assertIs(value in net, isinstance(value, str) and value in list(net.places))

    def test_equality(self):
        for one in NETS:
            for other in NETS:
                equal = one.places == other.places and one.ties == other.ties
                self.assertIs(one == other, equal)
                self.assertIs(one != other, not equal)
        for value in ODD_VALUES:
            self.assertIs(HUB == value, False)
            self.assertIs(value != HUB, True)
        self.assertFalse(Net(("a", "b")) == Net(("a", "b", "c")))
        self.assertFalse(Net(("a", "b"), {("a", "b"): 1}) == Net(("a", "b"), {("a", "b"): 2}))


class TestOtherNets(unittest.TestCase):
    def test_joined_and_untied(self):
        for net in NETS:
            before = (net.places, net.ties)
            for one, other in net.pairs:
                if net.size < 60:
                    more = net.joined(other, one)
                    self.assertEqual(more.ties, {**net.ties, (one, other): net.tied(one, other) + 1})
                    self.assertEqual(more.untied(one, other), net)
                    self.assertEqual(net.joined(one, other, 60 - net.size).size, 60)
                if net.tied(one, other):
                    less = net.untied(other, one, net.tied(one, other))
                    self.assertEqual(less.ties, {pair: many for pair, many in net.ties.items() if pair != (one, other)})
            self.assertEqual((net.places, net.ties), before)

    def test_sixty_ties_can_be_passed(self):
        net = Net(("a", "b"), {("a", "b"): 30}).joined("a", "b", 30)
        self.assertEqual((net.size, net.tied("b", "a"), str(net)), (60, 60, "net of 2 places, 60 ties"))
        self.assertEqual(net.untied("a", "b", 31).size, 29)
        self.assertEqual(net.with_place("c").without_place("c"), net)
        self.assertEqual(net.renamed({"a": "b", "b": "a"}), net)
        self.assertEqual(net.within(("a", "b")), net)
        self.assertEqual(net.times(1), net)
        self.assertEqual(net.plus(Net(("a", "b"))), net)
        self.assertEqual(net.shrunk(("a",), "x").ties, {("b", "x"): 60})

    def test_keywords_that_are_positional_work(self):
        self.assertEqual(PATH.joined("a", "b", 2), PATH.joined("b", "a").joined("a", "b", many=1))
        self.assertEqual(PATH.untied("a", "b", 2).ties, {("b", "c"): 1})

    def test_places_more_and_less(self):
        for net in NETS:
            for place in net.places:
                if len(net) > 1:
                    lesser = net.without_place(place)
                    self.assertEqual(lesser.places, tuple(other for other in net.places if other != place))
                    self.assertEqual(tie_list(lesser), [tie for tie in tie_list(net) if place not in tie])
            if len(net) < 7:
                more = net.with_place("new")
                self.assertEqual(more.places, tuple(sorted(net.places + ("new",))))
                self.assertEqual(more.ties, net.ties)
                self.assertEqual(more.without_place("new"), net)

    def test_within(self):
        for net in NETS:
            for lot in all_subsets(net.places):
                if lot:
                    within = net.within(lot)
                    self.assertEqual(within.places, lot)
                    self.assertEqual(tie_list(within), [tie for tie in tie_list(net) if set(tie) <= set(lot)])

    def test_shrunk(self):
        for net in NETS:
            for lot in all_subsets(net.places):
                for place in (("new", "a") + lot[-1:] if lot else ()):
                    if place not in net.places or place in lot:
                        self.check_shrunk(net, lot, place)

    def check_shrunk(self, net, lot, place):
        rows = []
        for tie in tie_list(net):
            moved = sorted(place if end in lot else end for end in tie)
            if moved[0] != moved[1]:
                rows.append(tuple(moved))
        shrunk = net.shrunk(lot, place)
        self.assertEqual(shrunk.places, tuple(sorted((set(net.places) - set(lot)) | {place})))
        self.assertEqual(tie_list(shrunk), sorted(rows))
        self.assertEqual(list(shrunk.ties), sorted(shrunk.ties))

    def test_shrunk_to_one_place(self):
        self.assertEqual(FULL.shrunk(FULL.places, "c"), Net(("c",)))
        self.assertEqual(FULL.shrunk(FULL.places, "x"), Net(("x",)))

    def test_renamed(self):
        names = {"a": "z", "b": "c", "c": "a", "z": "b"}
        renamed = HUB.renamed(names)
        self.assertEqual(renamed.ties, {("b", "z"): 2, ("b", "c"): 1, ("a", "b"): 1, ("c", "z"): 1})
        self.assertEqual(list(renamed.ties), sorted(renamed.ties))
        self.assertEqual(renamed.renamed({new: old for old, new in names.items()}), HUB)
        self.assertEqual(HUB.renamed({place: place for place in HUB}), HUB)
        self.assertEqual(POINT.renamed({"a": "abcdefgh"}).places, ("abcdefgh",))
        self.assertEqual(names, {"a": "z", "b": "c", "c": "a", "z": "b"})

    def test_times_and_plus(self):
        for net in NETS:
            if net.size <= 20:
                self.assertEqual(net.times(3), net.plus(net).plus(net))
                self.assertEqual(net.times(3).ties, {pair: 3 * many for pair, many in net.ties.items()})
            self.assertEqual(net.times(1), net)
        self.assertEqual(Net(("a", "b")).times(HUGE), Net(("a", "b")))
        self.assertEqual(TWO.times(20).size, 60)
        self.assertEqual(RING.plus(FULL), FULL.plus(RING))
        self.assertEqual(RING.plus(FULL).tied("a", "b"), 2)
        self.assertEqual(RING.plus(FULL).tied("a", "c"), 1)
        self.assertEqual(CROWD.size, 60)
        self.assertEqual(CROWD.plus(Net(CROWD.places)), CROWD)

    def test_made_nets_are_nets(self):
        made = (HUB.joined("a", "b"), HUB.untied("a", "b"), HUB.with_place("q"), HUB.without_place("a"),
                HUB.within(("a", "b")), HUB.shrunk(("a", "b"), "a"), HUB.times(2), HUB.plus(HUB), Net.full(("a",)),
                HUB.renamed({"a": "e", "b": "f", "c": "g", "z": "h"}), Net.ring(("a", "b")), APART, SEVEN)
        for net in made:
            self.assertIs(type(net), Net)
            self.assertEqual(net.pieces, count_pieces(net))


if __name__ == "__main__":
    unittest.main()
