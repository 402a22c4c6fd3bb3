"""Odd cuts and tours, beside a second way of counting over all odd lots, all pairings and all walks."""

import itertools
import unittest

from holdsfast.base.nets import Net
from holdsfast.errors import InvalidOperation
from holdsfast.odd.cuts import (
    is_odd_paper, is_tour, is_tour_paper, odd_cut, odd_lots, odd_paper, shortest_tour, tour_length, tour_paper,
)
from tests.helpers import (
    APART, CROWD, EXAMPLES, FULL, HUB, ODD_VALUES, PATH, POINT, RING, SEVEN, TWO, Refusals, all_subsets,
    changed_values, count_cut, count_pieces, counting_lots, is_plain_lot, is_two, mixed_nets, raised, same, small_nets,
    tie_list, wrong_nets,
)
from tests.test_joins import all_pairings, count_join, distances, is_odd_in, is_right_row

NETS = EXAMPLES + tuple(small_nets()[::3]) + tuple(mixed_nets(25, 80))
BARE = Net(("a", "b", "c"))
LATER = Net(tuple("abcd"), {("b", "d"): 2, ("c", "d"): 1})


def all_numbers(net):
    cuts = {lot: count_cut(net, lot) for lot in counting_lots(net)}
    return {(one, other): min(cuts[lot] for lot in cuts if (one in lot) != (other in lot)) for one, other in net.pairs}


def even_choices(net):
    rows = [lot for lot in all_subsets(net.places) if lot and len(lot) % 2 == 0]
    return rows if len(net.places) < 5 else rows[::6] + rows[-1:]


def is_right_odd_paper(net, chosen, value):
    if not is_two(value) or not is_plain_lot(net, value[0]) or not is_odd_in(value[0], chosen):
        return False
    lot, pairing = value
    if type(pairing) is not tuple or not all(is_plain_lot(net, pair) and len(pair) == 2 for pair in pairing):
        return False
    if pairing not in all_pairings(chosen):
        return False
    return count_cut(net, lot) == min(all_numbers(net)[pair] for pair in pairing)


def first_tied(net):
    return min([place for tie in tie_list(net) for place in tie] or net.places)


def is_right_tour(net, value):
    if type(value) is not tuple or not value or not all(type(place) is str for place in value):
        return False
    steps = [tuple(sorted(value[at:at + 2])) for at in range(len(value) - 1)]
    ties = tie_list(net)
    if any(step not in ties for step in steps) or any(steps.count(tie) < ties.count(tie) for tie in ties):
        return False
    return (value[0], value[-1]) == (first_tied(net), first_tied(net))


def is_right_tour_paper(net, value):
    odd = [place for place in net.places if count_cut(net, (place,)) % 2]
    if not is_two(value) or not is_right_tour(net, value[0]) or not is_right_row(net, odd, value[1]):
        return False
    return 2 * (len(value[0]) - 1 - len(tie_list(net))) == len(value[1])


def has_tour(net):
    return sum(1 for piece in count_pieces(net) if len(piece) > 1) <= 1


def count_steps(net):
    """Find the length of a shortest tour by walking on from all that was reached in so many steps."""
    start = first_tied(net)
    pairs = list(net.ties)
    fresh, seen, steps = {(start, tuple(net.ties.values()))}, set(), 0
    while (start, (0,) * len(pairs)) not in fresh:
        seen |= fresh
        onward = set()
        for place, left in fresh:
            for at, pair in enumerate(pairs):
                if place in pair:
                    far = pair[1 - pair.index(place)]
                    onward.add((far, left[:at] + (max(0, left[at] - 1),) + left[at + 1:]))
        fresh = onward - seen
        steps += 1
    return steps


class TestOddCuts(unittest.TestCase):
    def test_odd_cuts(self):
        for net in NETS:
            told = all_numbers(net)
            for chosen in even_choices(net):
                cuts = {lot: count_cut(net, lot) for lot in counting_lots(net) if is_odd_in(lot, chosen)}
                least = min(cuts.values())
                self.assertTrue(same(odd_cut(net, chosen), least), (net.ties, chosen))
                self.assertEqual(odd_lots(net, chosen), tuple(sorted(lot for lot in cuts if cuts[lot] == least)))
                best = max(min(told[pair] for pair in pairing) for pairing in all_pairings(chosen))
                self.assertEqual(best, least)
                lot, pairing = odd_paper(net, chosen)
                self.assertEqual(cuts[lot], least)
                self.assertIn(pairing, all_pairings(chosen))
                self.assertEqual(min(told[pair] for pair in pairing), least)
                self.assertIs(is_odd_paper(net, chosen, (lot, pairing)), True)

    def test_all_papers_of_small_nets(self):
        nets = [net for net in NETS if 2 <= len(net.places) <= 4]
        for net in nets[::4] + [HUB, RING, FULL]:
            for chosen in even_choices(net):
                right = 0
                for lot in all_subsets(net.places):
                    for pairing in all_pairings(chosen):
                        expected = is_right_odd_paper(net, chosen, (lot, pairing))
                        self.assertIs(is_odd_paper(net, chosen, (lot, pairing)), expected, (net.ties, chosen, lot, pairing))
                        right += expected
                self.assertGreater(right, 0)

    def test_edges(self):
        self.assertEqual((odd_cut(TWO, ("a", "b")), odd_lots(TWO, ("a", "b"))), (3, (("a",), ("b",))))
        self.assertEqual((odd_cut(BARE, ("a", "c")), odd_lots(BARE, ("a", "c"))),
                         (0, (("a",), ("a", "b"), ("b", "c"), ("c",))))
        self.assertEqual(odd_cut(APART, ("a", "c")), 0)
        self.assertEqual(odd_cut(APART, ("a", "b")), 2)
        self.assertEqual(odd_cut(SEVEN, SEVEN.places[:6]), 6)
        self.assertEqual(odd_cut(CROWD, CROWD.places), 20)

    def test_one_thing_changed(self):
        for net, chosen in ((HUB, ("a", "b")), (HUB, HUB.places), (TWO, ("a", "b")), (APART, ("a", "d"))):
            for value in changed_values(odd_paper(net, chosen)):
                self.assertIs(is_odd_paper(net, chosen, value), is_right_odd_paper(net, chosen, value), value)
        self.assertIs(is_odd_paper(HUB, HUB.places, (("c",), (("a", "b"), ("c", "z")))), True)
        self.assertIs(is_odd_paper(HUB, HUB.places, (("c",), (("c", "z"), ("a", "b")))), False)
        self.assertIs(is_odd_paper(HUB, HUB.places, (("a", "b", "z"), (("a", "z"), ("b", "c")))), True)
        self.assertIs(is_odd_paper(HUB, HUB.places, (("a", "b"), (("a", "z"), ("b", "c")))), False)


class TestTours(unittest.TestCase):
    def test_tours(self):
        for net in NETS:
            if has_tour(net):
                odd = tuple(place for place in net.places if count_cut(net, (place,)) % 2)
                least = len(tie_list(net)) + count_join(distances(net), odd)
                self.assertTrue(same(tour_length(net), least))
                tour = shortest_tour(net)
                self.assertTrue(is_right_tour(net, tour), (net.ties, tour))
                self.assertEqual(len(tour) - 1, least)
                self.assertIs(is_tour(net, tour), True)
                self.assertIs(is_tour(net, tour[::-1]), True)
                paper = tour_paper(net)
                self.assertTrue(is_right_tour_paper(net, paper), (net.ties, paper))
                self.assertIs(is_tour_paper(net, paper), True)
                self.assertIs(is_tour_paper(net, (tour[::-1], paper[1])), True)

    def test_shortest_of_all_walks(self):
        for net in [net for net in small_nets()[::2] if has_tour(net)] + [RING, FULL, HUB, PATH, TWO, LATER]:
            self.assertEqual(tour_length(net), count_steps(net), net.ties)

    def test_all_short_tours(self):
        for net in (TWO.untied("a", "b", 2), PATH, BARE, POINT, Net(tuple("abc"), {("b", "c"): 2}), Net.ring(("a", "b", "c")),
                    Net(tuple("abcd"), {("a", "b"): 1, ("c", "d"): 1})):
            right = 0
            for size in range(7):
                for value in itertools.product(net.places, repeat=size):
                    expected = is_right_tour(net, value)
                    self.assertIs(is_tour(net, value), expected, (net.ties, value))
                    right += expected
            self.assertIs(right > 0, has_tour(net))

    def test_edges(self):
        for net in (POINT, BARE):
            self.assertEqual((tour_length(net), shortest_tour(net), tour_paper(net)), (0, ("a",), (("a",), ())))
            self.assertIs(is_tour(net, ("a",)), True)
            self.assertIs(is_tour(net, ("a", "a")), False)
        self.assertIs(is_tour(BARE, ("b",)), False)
        self.assertEqual(shortest_tour(LATER)[0], "b")
        self.assertIs(is_tour(LATER, ("b", "d", "c", "d", "b")), True)
        self.assertIs(is_tour(LATER, ("d", "c", "d", "b", "d")), False)
        self.assertEqual((tour_length(TWO), shortest_tour(TWO)), (4, ("a", "b", "a", "b", "a")))
        self.assertEqual(tour_length(SEVEN), 21)
        self.assertEqual(tour_length(CROWD), 60)
        self.assertEqual(tour_length(Net(("a", "b")).joined("a", "b", 59)), 60)
        self.assertEqual(tour_length(APART.untied("c", "e")), 2)

    def test_longer_tours_and_other_rows(self):
        self.assertIs(is_tour(PATH, ("a", "b", "c", "b", "c", "b", "a")), True)
        self.assertIs(is_tour(PATH, ("a", "b", "a", "b", "c", "b", "a")), True)
        self.assertIs(is_tour_paper(PATH, (("a", "b", "a", "b", "c", "b", "a"), (("c",), ("c",)))), False)
        for row in ((("c",), ("c",)), (("a", "b"), ("c",)), (("a", "b"), ("a", "b"))):
            self.assertIs(is_tour_paper(PATH, (("a", "b", "c", "b", "a"), row)), True)
        self.assertIs(is_tour_paper(PATH, (("a", "b", "c", "b", "a"), (("c",),))), False)
        self.assertIs(is_tour_paper(PATH, (("a", "b", "c", "b", "a"), ())), False)
        self.assertIs(is_tour_paper(RING, (("a", "d", "c", "b", "a"), ())), True)

    def test_one_thing_changed(self):
        for net in (PATH, RING, HUB, TWO, LATER, BARE, POINT):
            paper = tour_paper(net)
            for value in changed_values(paper[0]):
                self.assertIs(is_tour(net, value), is_right_tour(net, value), value)
            for value in changed_values(paper):
                self.assertIs(is_tour_paper(net, value), is_right_tour_paper(net, value), value)

    def test_no_tour(self):
        two_pieces = Net(tuple("abcd"), {("a", "b"): 2, ("c", "d"): 2})
        self.assertIs(is_tour(two_pieces, ("a", "b", "a", "c", "d", "c", "a")), False)
        self.assertIs(is_tour(two_pieces, ("a", "b", "a")), False)
        self.assertIs(is_tour(APART, ("a",)), False)


class TestRefusals(Refusals, unittest.TestCase):
    def test_chosen(self):
        for net, chosen in ((RING, ("a", "c")), (APART, ("a", "d")), (TWO, ("a", "b"))):
            wrong = [value for value in ODD_VALUES if not is_plain_lot(net, value) or len(value) % 2 or not value]
            wrong += [("b", "a"), ["a", "b"], ("a", "q"), ("a", None), {"a": 1, "b": 1}, ("a", "a")]
            wrong += [lot for lot in all_subsets(net.places) if len(lot) % 2]
            told = [("net", net, wrong_nets()), ("chosen", chosen, [(value, (InvalidOperation, None)) for value in wrong])]
            for call in (odd_cut, odd_lots, odd_paper):
                self.check_refusals(call, told)
            for value in (None, odd_paper(net, chosen), ()):
                self.check_refusals(lambda net, chosen: is_odd_paper(net, chosen, value), told)
        for chosen in ((), ("a",), ("a", "b"), None):
            self.assertEqual(raised(odd_cut, POINT, chosen), (InvalidOperation, None))
            self.assertEqual(raised(is_odd_paper, POINT, chosen, None), (InvalidOperation, None))

    def test_tours(self):
        for call in (tour_length, shortest_tour, tour_paper):
            self.check_refusals(call, [("net", PATH, wrong_nets() + [(APART, (InvalidOperation, None))])])
        for value in (None, tour_paper(PATH)):
            self.check_refusals(lambda net: is_tour_paper(net, value),
                                [("net", PATH, wrong_nets() + [(APART, (InvalidOperation, None))])])
            self.check_refusals(lambda net: is_tour(net, value), [("net", PATH, wrong_nets())])

    def test_judges_take_every_value(self):
        for net in (PATH, HUB, APART, TWO, POINT, BARE):
            self.check_judge(is_tour, net, right=[("a",)] if net in (POINT, BARE) else [])
            if net is not APART:
                self.check_judge(is_tour_paper, net)
            if net is not POINT:
                self.check_judge(is_odd_paper, net, net.places[:2])


if __name__ == "__main__":
    unittest.main()
