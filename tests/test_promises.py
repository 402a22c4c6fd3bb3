"""What the document promises over the whole program: the results of all stages go together, behind each new tie too."""

import random
import unittest

from holdsfast.base.lots import across, inside, lots, partings
from holdsfast.base.nets import Net
from holdsfast.least.cuts import is_least, least_cut, least_lots, leaves
from holdsfast.least.webs import ring_web, web_leaves, web_lots
from holdsfast.more.cuts import fewest_raising, is_raising, raising, raising_paper
from holdsfast.more.trees import coarsest_worst, filling, filling_paper, is_filling_paper, lack, needed_pairs
from holdsfast.odd.cuts import is_tour_paper, odd_cut, odd_lots, odd_paper, shortest_tour, tour_length, tour_paper
from holdsfast.odd.joins import is_join_paper, join_number, join_paper
from holdsfast.part.crowds import crowding, crowding_paper, greatest_crowds, is_crowding_paper, layers
from holdsfast.part.strength import (
    chain, coarsest_at, critical_levels, finest_at, is_strength_paper, strength, strength_paper, weakest,
)
from holdsfast.past.carried import carried_net, carried_numbers, carried_tree, is_carried_tree
from holdsfast.past.pairs import is_whole_row, keeping_pairs, led_past, pairs_at, past_paper, pinched, whole_row
from holdsfast.play.game import best_move, game_paper, is_game_paper, winner
from holdsfast.text.texts import read, write
from holdsfast.trees.covers import cover_paper, crowds_for, fewest_forests, is_cover_paper
from holdsfast.trees.packed import is_trees_paper, most_trees, trees_paper
from holdsfast.trees.turned import least_in, told_paper
from holdsfast.use.live import Live, facts
from holdsfast.ways.numbers import is_number_paper, number_paper, numbers
from holdsfast.ways.rooted import most_rooted, rooted_paper
from holdsfast.ways.streets import even_streets, folds_paper, is_folds_paper, least_entering, most_folds
from holdsfast.ways.trees import cut_tree, is_cut_tree
from tests.helpers import CROWD, EXAMPLES, FULL, HUB, PATH, POINT, RING, SEVEN, mixed_nets, same, small_nets
from tests.test_packed import SIXTY

START = ({}, {})
NETS = EXAMPLES + tuple(small_nets()[::7]) + tuple(mixed_nets(20, 240)) + (SIXTY, SEVEN.times(2))
# What is asked of a net alone.
PLAIN = (
    lots, least_lots, leaves, ring_web, raising, raising_paper, tour_length, shortest_tour, tour_paper, crowding,
    crowding_paper, greatest_crowds, layers, strength, strength_paper, weakest, chain, critical_levels, most_trees, fewest_forests,
    least_in, numbers, cut_tree, most_folds, even_streets, facts, least_cut, fewest_raising,
)
# What is asked of a net and a small number.
NUMBERED = (lack, coarsest_worst, needed_pairs, filling, filling_paper, trees_paper, cover_paper, crowds_for, folds_paper)
PLACED = (pairs_at, keeping_pairs, whole_row, carried_numbers, carried_tree)


def with_names(value, names):
    """Put other names for the places in a value, at any depth."""
    if isinstance(value, tuple):
        return tuple(with_names(item, names) for item in value)
    if isinstance(value, dict):
        return {with_names(key, names): with_names(item, names) for key, item in value.items()}
    if isinstance(value, Net):
        return value.renamed({place: names[place] for place in value.places})
    return names.get(value, value) if isinstance(value, str) else value


def answer(call, *given):
    """Return what a call returns, or the class of its error."""
    try:
        return call(*given)
    except Exception as error:
        return type(error)


class TestAllStages(unittest.TestCase):
    def test_nets(self):
        for net in NETS:
            self.check(net)

    def test_behind_each_new_tie(self):
        numbers_ = random.Random(241)
        for size in (2, 4, 6, 7):
            live = Live(Net(tuple("abcdefg"[:size])))
            for _ in range(14):
                live.tie(*numbers_.sample(live.net.places, 2), numbers_.choice((1, 1, 2)))
                self.check(live.net)
                self.assertTrue(same({word: live[word] for word in facts(live.net)}, facts(live.net)))
                if live.net.size <= 30:
                    self.assertEqual(read("net", write("net", live.net)), live.net)

    def check(self, net):
        self.check_partings(net)
        if len(net.places) > 1:
            self.check_cuts(net)
            self.check_streets(net)
            self.check_joins(net)
            self.check_new_ties(net)
            self.check_game(net)
            self.check_past(net)

    def check_cuts(self, net):
        told, tree, least = numbers(net), cut_tree(net), least_cut(net)
        self.assertEqual((min(told.values()), min(triple[2] for triple in tree)), (least, least))
        self.assertEqual(least > 0, net.is_joined)
        one, other = net.pairs[-1]
        ways, lot = number_paper(net, one, other)
        self.assertEqual(len(ways), told[one, other])
        if least:
            web = ring_web(net)
            self.assertEqual((web_lots(net, web), web_leaves(net, web)), (least_lots(net), leaves(net)))
        self.assertTrue(all(is_least(net, leaf) for leaf in leaves(net)))

    def check_partings(self, net):
        many = net.places and len(net.places) > 1 and most_trees(net) or 0
        for k in (1, 2, 3):
            self.assertEqual(lack(net, k) == 0, len(net.places) == 1 or k <= many)
            self.assertEqual(trees_paper(net, k)[0] == "trees", lack(net, k) == 0)
            self.assertEqual(cover_paper(net, k)[0] == "cover", k >= fewest_forests(net))
        if len(net.places) > 1:
            levels, row = critical_levels(net), chain(net)
            self.assertEqual((levels[0], levels[-1]), (strength(net), crowding(net)))
            self.assertEqual((row[0], row[-1]), ((net.places,), tuple((place,) for place in net.places)))
            self.assertEqual(many, strength(net)[0] // strength(net)[1])
            self.assertEqual(fewest_forests(net), -(-crowding(net)[0] // crowding(net)[1]))
            for level, before, behind in zip(levels, row, row[1:]):
                self.assertEqual((coarsest_at(net, level), finest_at(net, level)), (before, behind))
            if crowding(net)[0]:
                parts = [part for part in coarsest_at(net, crowding(net)) if len(part) > 1]
                self.assertEqual(tuple(parts), greatest_crowds(net))
            self.assertEqual(weakest(net), row[1])
        most = max((inside(net, lot), len(lot)) for lot in lots(net) + (net.places,))
        self.assertGreaterEqual(least_in(net) * most[1], most[0])

    def check_streets(self, net):
        many = most_folds(net)
        self.assertEqual(many, least_cut(net) // 2)
        if many:
            streets = folds_paper(net, many)[1]
            self.assertGreaterEqual(least_entering(net, streets), many)
            self.assertGreaterEqual(min(most_rooted(net, streets, root) for root in net.places), many)
            self.assertEqual(rooted_paper(net, streets, net.places[:1] * many)[0], "trees")
        told = told_paper(net, dict.fromkeys(net.places, min(least_in(net), 60)))
        self.assertEqual(told[0], "streets")

    def check_joins(self, net):
        odd = net.odd
        join, row = join_paper(net, odd)
        self.assertEqual((2 * sum(join.values()), sum(join.values())), (len(row), join_number(net, odd)))
        if odd:
            lot, pairing = odd_paper(net, odd)
            self.assertEqual(min(numbers(net)[pair] for pair in pairing), odd_cut(net, odd))
            self.assertIn(lot, odd_lots(net, odd))
            self.assertGreaterEqual(odd_cut(net, odd), least_cut(net))
        if len([piece for piece in net.pieces if len(piece) > 1]) < 2:
            self.assertEqual((tour_length(net), len(shortest_tour(net)) - 1), (net.size + join_number(net, odd),) * 2)

    def check_new_ties(self, net):
        for many in (1, 2, most_trees(net) + 1):
            ties = filling(net, min(many, 10))
            made = net
            for tie in ties if net.size + len(ties) <= 60 else ():
                before = lack(made, min(many, 10))
                self.assertIn(tie, made.pairs)
                made = made.joined(*tie)
                self.assertIn(before - lack(made, min(many, 10)), (0, 1))
            if net.size + len(ties) <= 60 and many <= 10:
                self.assertGreaterEqual(most_trees(made), many)
        if net.is_joined and net.size + fewest_raising(net) <= 60:
            made = net
            for tie in raising(net):
                made = made.joined(*tie)
            self.assertEqual((least_cut(made), fewest_raising(net)), (least_cut(net) + 1, (len(leaves(net)) + 1) // 2))

    def check_game(self, net):
        self.assertEqual(winner(net, START, "cutter"), "keeper" if most_trees(net) >= 2 else "cutter")
        self.assertEqual(winner(net, START, "keeper"), "keeper" if lack(net, 2) <= 1 else "cutter")
        for turn in ("cutter", "keeper"):
            self.assertIs(is_game_paper(net, START, turn, game_paper(net, START, turn)), True)
            self.assertEqual(best_move(net, START, turn) is None, winner(net, START, turn) != turn or not net.size)

    def check_past(self, net):
        place = net.places[0]
        row = whole_row(net, place)
        told = numbers(net)
        alone = [pair for pair in net.ties if place in pair and told[pair] == 1]
        if net.degrees[place] % 2 == 0 and not alone:
            self.assertIsNotNone(row)
        if row is not None:
            carried = carried_net(net, place, row)
            self.assertEqual(numbers(carried), carried_numbers(net, place))
            self.assertEqual(pinched(carried, place, row), net)
            chosen = carried.odd
            if chosen:
                self.assertEqual(odd_cut(carried, chosen), odd_cut(net, chosen))
            if len(carried) > 1:
                self.assertGreaterEqual(least_cut(carried) // 2, least_cut(net) // 2)
                self.assertIs(is_carried_tree(net, place, cut_tree(carried)), True)


class TestNames(unittest.TestCase):
    def names(self, net, numbers_, ordered):
        words = numbers_.sample(["b", "ba", "k", "kk", "m", "q", "zebra", "h", "az"], len(net.places))
        return dict(zip(net.places, sorted(words) if ordered else words))

    def test_other_names_in_the_same_order(self):
        numbers_ = random.Random(242)
        for net in NETS[::2]:
            names = self.names(net, numbers_, True)
            other = net.renamed(names)
            for call, given in self.all_calls(net):
                expected = answer(call, net, *given)
                found = answer(call, other, *with_names(tuple(given), names))
                self.assertTrue(same(with_names(expected, names), found), (call, net.ties, given))

    def all_calls(self, net):
        rows = [(call, ()) for call in PLAIN]
        rows += [(call, (many,)) for call in NUMBERED for many in (1, 2)]
        rows += [(call, (place,)) for call in PLACED for place in net.places[-2:]]
        rows += [(call, (START, turn)) for call in (winner, game_paper, best_move) for turn in ("cutter", "keeper")]
        rows += [(past_paper, (net.places[0], pair)) for pair in pairs_at(net, net.places[0])[:3]]
        rows += [(led_past, (net.places[0], pair)) for pair in pairs_at(net, net.places[0])[:3]]
        return rows

    def test_other_names_in_another_order(self):
        numbers_ = random.Random(243)
        for net in NETS[::2]:
            names = self.names(net, numbers_, False)
            other = net.renamed(names)
            for call in (tour_length, crowding, strength, critical_levels, most_trees, fewest_forests, least_in, most_folds, facts,
                         least_cut, fewest_raising):
                self.assertTrue(same(answer(call, net), answer(call, other)), call)
            for many in (1, 2, 3):
                self.assertEqual(lack(net, many), lack(other, many))
            told = numbers(other)
            self.assertEqual({tuple(sorted((names[x], names[y]))): n for (x, y), n in numbers(net).items()}, told)
            for turn in ("cutter", "keeper"):
                self.assertEqual(winner(net, START, turn), winner(other, START, turn))
            for place in net.places:
                self.assertEqual(whole_row(net, place) is None, whole_row(other, names[place]) is None)

    def test_papers_of_a_renamed_net_hold_when_they_are_named_back(self):
        numbers_ = random.Random(244)
        for net in (RING, FULL, HUB, PATH, SEVEN, CROWD) + tuple(mixed_nets(8, 245)):
            names = self.names(net, numbers_, True)
            other, back = net.renamed(names), {word: place for place, word in names.items()}
            self.assertIs(is_cut_tree(net, with_names(cut_tree(other), back)), True)
            self.assertIs(is_trees_paper(net, 2, with_names(trees_paper(other, 2), back)), True)
            self.assertIs(is_cover_paper(net, 2, with_names(cover_paper(other, 2), back)), True)
            self.assertIs(is_join_paper(net, net.odd, with_names(join_paper(other, other.odd), back)), True)
            self.assertIs(is_strength_paper(net, with_names(strength_paper(other), back)), True)
            self.assertIs(is_crowding_paper(net, with_names(crowding_paper(other), back)), True)
            self.assertIs(is_folds_paper(net, 1, with_names(folds_paper(other, 1), back)), True)
            self.assertIs(is_filling_paper(net, 3, with_names(filling_paper(other, 3), back)), True)
            self.assertIs(is_tour_paper(net, with_names(tour_paper(other), back)), True)
            one, two = net.pairs[0]
            paper = with_names(number_paper(other, names[one], names[two]), back)
            self.assertIs(is_number_paper(net, one, two, paper), True)
            if net.is_joined:
                self.assertIs(is_raising(net, with_names(raising(other), back)), True)
            for place in net.places:
                row = whole_row(other, names[place])
                self.assertEqual(row is None, whole_row(net, place) is None)
                if row is not None:
                    self.assertIs(is_whole_row(net, place, with_names(row, back)), True)


class TestWhatIsNotTrue(unittest.TestCase):
    """For each sentence of [0.21] a net of which it is not true."""

    def test_many_ties_at_each_place(self):
        net = Net(tuple("abcdef"), {("a", "b"): 1, ("a", "c"): 1, ("b", "c"): 1, ("d", "e"): 1, ("d", "f"): 1, ("e", "f"): 1, ("c", "d"): 1})
        self.assertEqual((min(net.degrees.values()), least_cut(net)), (2, 1))

    def test_least_cut_and_trees(self):
        self.assertEqual((least_cut(RING), most_trees(RING)), (2, 1))

    def test_forests_and_ties_at_a_place(self):
        star = Net(tuple("abcd"), {("a", "b"): 1, ("a", "c"): 1, ("a", "d"): 1})
        self.assertEqual((fewest_forests(star), max(star.degrees.values())), (1, 3))

    def test_as_many_ties_as_two_trees_have(self):
        net = Net(("a", "b", "c"), {("a", "b"): 3, ("b", "c"): 1})
        self.assertEqual((net.size, net.is_joined, most_trees(net)), (4, True, 1))

    def test_strength_and_half_the_least_cut(self):
        self.assertEqual((strength(RING), least_cut(RING)), ((4, 3), 2))

    def test_trees_behind_ties_that_are_led_past(self):
        net = Net(("a", "b", "c", "z"), {("a", "z"): 2, ("b", "z"): 2, ("c", "z"): 2})
        carried = carried_net(net, "z", (("a", "b"), ("a", "c"), ("b", "c")))
        self.assertEqual(numbers(carried), carried_numbers(net, "z"))
        self.assertEqual((most_trees(net), most_trees(carried)), (2, 1))

    def test_edges_of_the_promises(self):
        self.assertEqual((most_trees(POINT), strength(POINT), crowding(POINT), fewest_forests(POINT)), (None, None, None, 0))
        self.assertEqual([across(FULL, parting) for parting in partings(FULL)][0], 6)


if __name__ == "__main__":
    unittest.main()
