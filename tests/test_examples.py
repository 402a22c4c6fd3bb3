"""The examples of the document, as they stand there."""

import doctest
import unittest

from holdsfast.base import lots, nets, words
from holdsfast.least import cuts, webs
from holdsfast.more import cuts as more_cuts
from holdsfast.more import trees as more_trees
from holdsfast.odd import cuts as odd_cuts
from holdsfast.odd import joins
from holdsfast.part import crowds, strength
from holdsfast.past import carried, pairs
from holdsfast.play import game
from holdsfast.text import shell, texts
from holdsfast.trees import covers, packed, turned
from holdsfast.use import live
from holdsfast.ways import numbers, rooted, streets, trees

NETS = """
>>> RING = Net(("a", "b", "c", "d"), {("a", "b"): 1, ("a", "d"): 1, ("b", "c"): 1, ("c", "d"): 1})
>>> FULL = Net(("a", "b", "c", "d"), {("a", "b"): 1, ("a", "c"): 1, ("a", "d"): 1, ("b", "c"): 1, ("b", "d"): 1, ("c", "d"): 1})
>>> HUB = Net(("a", "b", "c", "z"), {("a", "z"): 2, ("b", "z"): 1, ("c", "z"): 1, ("a", "b"): 1})
>>> PATH = Net(("a", "b", "c"), {("a", "b"): 2, ("b", "c"): 1})
"""

WORDS = """
>>> [is_place("hall"), is_place("A"), is_place(""), fraction(6, 4), fraction(-2, 6), fraction(0, 7), is_fraction((4, 2)), is_lower((3, 2), (5, 3)), greatest((1, 2), (2, 3), (3, 5))]
[True, False, False, (3, 2), (-1, 3), (0, 1), False, True, (2, 3)]
"""

MADE_NETS = """
>>> [FULL == Net.full(("d", "c", "b", "a")), RING == Net.ring(("a", "b", "c", "d")), HUB.degrees, HUB.odd, HUB.near("z"), PATH.tied("c", "b"), str(HUB)]
[True, True, {'a': 3, 'b': 2, 'c': 1, 'z': 4}, ('a', 'c'), ('a', 'b', 'c'), 1, 'net of 4 places, 5 ties']
>>> [PATH.untied("a", "b").ties, PATH.without_place("b").pieces, HUB.within(("a", "b", "z")).size, HUB.shrunk(("a", "b"), "k").ties, PATH.times(2).size, RING.plus(FULL).size]
[{('a', 'b'): 1, ('b', 'c'): 1}, (('a',), ('c',)), 4, {('c', 'z'): 1, ('k', 'z'): 3}, 6, 10]
"""

LOTS = """
>>> [cut(HUB, ("a", "b")), inside(HUB, ("a", "b")), rest(HUB, ("a", "z")), do_cross(FULL, ("a", "b"), ("b", "c")), do_cross(FULL, ("a",), ("a", "b")), len(lots(FULL)), cut_table(PATH)[("a",)]]
[3, 1, ('b', 'c'), True, False, 14, 2]
>>> [list(partings(PATH))[:2], len(list(partings(FULL))), across(HUB, (("a", "b"), ("c", "z"))), parted_by(HUB, (("a", "z"),))]
[[(('a',), ('b',), ('c',)), (('a',), ('b', 'c'))], 15, 3, (('a', 'z'), ('b',), ('c',))]
>>> [is_finer(PATH, (("a",), ("b",), ("c",)), (("a", "b"), ("c",))), met(PATH, (("a", "b"), ("c",)), (("a",), ("b", "c"))), merged(PATH, (("a", "b"), ("c",)), (("a",), ("b", "c")))]
[True, (('a',), ('b',), ('c',)), (('a', 'b', 'c'),)]
"""

NUMBERS = """
>>> [number(HUB, "a", "z"), numbers(PATH), least_lot(HUB, "z", "c"), is_family(HUB, "b", "z", (("b", "z"), ("b", "a", "z"))), is_number_paper(PATH, "a", "c", ((("a", "b", "c"),), ("a", "b")))]
[3, {('a', 'b'): 2, ('a', 'c'): 1, ('b', 'c'): 1}, ('a', 'b', 'z'), True, True]
"""

TREES = """
>>> [cut_tree(PATH), is_cut_tree(FULL, (("a", "b", 3), ("a", "c", 3), ("a", "d", 3))), is_cut_tree(PATH, (("a", "b", 2), ("a", "c", 1))), tree_number(PATH, cut_tree(PATH), "c", "a"), tree_lot(PATH, cut_tree(PATH), 1)]
[(('a', 'b', 2), ('b', 'c', 1)), True, False, 1, ('a', 'b')]
"""

CUTS = """
>>> [least_cut(HUB), least_lots(HUB), leaves(HUB), least_cut(FULL), least_lots(FULL), leaves(RING)]
[1, (('a', 'b', 'z'),), (('a', 'b', 'z'), ('c',)), 3, (('a',), ('a', 'b', 'c'), ('a', 'b', 'd'), ('a', 'c', 'd')), (('a',), ('b',), ('c',), ('d',))]
>>> [len(least_lots(RING)), crossing(RING), is_least(RING, ("b", "c")), is_least(RING, ("a", "c")), is_least_paper(PATH, (("c",), cut_tree(PATH)))]
[6, ((('a', 'b'), ('a', 'd')),), True, False, True]
"""

WEBS = """
>>> star = ((("a",), ("b",), ("c",), ("d",), ()), ((0, 4), (1, 4), (2, 4), (3, 4)))
>>> [is_ring_web(FULL, star), is_ring_web(RING, star), web_lots(RING, star), node_of(FULL, star, "c"), is_web(FULL, ((("a",), ("b", "c", "d")), ((0, 1), (1, 0))))]
[True, False, (('a',), ('a', 'b', 'c'), ('a', 'b', 'd'), ('a', 'c', 'd')), 2, False]
>>> [is_ring_web(RING, ((("a",), ("b",), ("c",), ("d",)), ((0, 1, 2, 3),))), is_ring_web(HUB, ((("a", "b", "z"), ("c",)), ((0, 1),))), web_leaves(HUB, ring_web(HUB))]
[True, True, (('a', 'b', 'z'), ('c',))]
"""

JOINS = """
>>> [join_number(RING, ("a", "c")), join_number(FULL, FULL.places), least_join(PATH, ("b", "c")), is_join(RING, ("a", "c"), {("a", "b"): 1, ("b", "c"): 1}), is_join(RING, ("a", "c"), {("a", "b"): 1}), join_paper(RING, ())]
[2, 2, {('b', 'c'): 1}, True, False, ({}, ())]
>>> [is_odd_row(RING, ("a", "c"), (("a",), ("a",), ("c",), ("c",))), is_join_paper(FULL, FULL.places, ({("a", "b"): 1, ("c", "d"): 1}, (("a",), ("b",), ("c",), ("d",))))]
[True, True]
>>> both_joins(RING, (("a", "c"), ("b", "c")), {("a", "b"): 1, ("b", "c"): 1}, {("b", "c"): 1})
{('a', 'b'): 1}
"""

ODD_CUTS = """
>>> [odd_cut(HUB, ("a", "c")), odd_lots(HUB, ("a", "c")), odd_cut(FULL, FULL.places), is_odd_paper(HUB, ("a", "b"), (("b",), (("a", "b"),)))]
[1, (('a', 'b', 'z'), ('c',)), 3, True]
>>> [tour_length(HUB), tour_length(RING), is_tour(PATH, ("a", "b", "c", "b", "a")), is_tour(PATH, ("a", "b", "c")), is_tour_paper(PATH, (("a", "b", "c", "b", "a"), (("c",), ("c",))))]
[7, 4, True, False, True]
"""

PACKED = """
>>> [most_trees(FULL), most_trees(RING), most_trees(Net(("a",))), is_tree(RING, (("a", "b"), ("b", "c"), ("c", "d"))), is_forest(RING, (("a", "b"),)), trees_paper(FULL, 2)[0], trees_paper(RING, 2)[0]]
[2, 1, None, True, True, 'trees', 'parting']
>>> [is_trees_paper(FULL, 2, ("trees", ((("a", "b"), ("b", "c"), ("c", "d")), (("a", "c"), ("a", "d"), ("b", "d"))))), is_trees_paper(RING, 2, ("parting", (("a",), ("b",), ("c",), ("d",)))), most_forest_ties(PATH, 2), do_share(PATH, ((("a", "b"),), (("a", "b"),)))]
[True, True, 3, False]
>>> is_forests_paper(PATH, 2, (((("a", "b"), ("b", "c")), (("a", "b"),)), (("a", "b"), ("c",))))
True
"""

COVERS = """
>>> [fewest_forests(FULL), fewest_forests(RING), fewest_forests(PATH), crowds_for(PATH, 1), crowds_for(RING, 1), cover_paper(RING, 2)[0]]
[2, 2, 2, (('a', 'b'), ('a', 'b', 'c')), (('a', 'b', 'c', 'd'),), 'cover']
>>> [is_cover(PATH, ((("a", "b"), ("b", "c")), (("a", "b"),))), is_cover(PATH, ((("a", "b"),), (("a", "b"),))), is_cover_paper(PATH, 1, ("crowd", ("a", "b")))]
[True, False, True]
"""

TURNED = """
>>> turn = {("a", "b"): 1, ("b", "a"): 1, ("c", "b"): 1}
>>> [is_streets(PATH, turn), coming_in(PATH, turn), entering(PATH, turn, ("a", "b")), least_in(PATH), least_in(FULL), is_told_paper(PATH, {"a": 1, "b": 1, "c": 0}, ("crowd", ("a", "b", "c")))]
[True, {'a': 1, 'b': 2, 'c': 0}, 1, 1, 2, True]
>>> [is_told_paper(PATH, {"a": 1, "b": 2, "c": 0}, ("streets", turn), just=True), told_paper(PATH, {"a": 1, "b": 2, "c": 9}, just=True), coming_in(PATH, reversed_way(PATH, turn, "c", "b"))]
[True, ('spare',), {'a': 1, 'b': 1, 'c': 1}]
"""

STRENGTH = """
>>> [strength(FULL), strength(RING), strength(PATH), strength(Net(("a",))), weakest(PATH), critical_levels(PATH), critical_levels(HUB), critical_levels(RING)]
[(2, 1), (4, 3), (1, 1), None, (('a', 'b'), ('c',)), ((1, 1), (2, 1)), ((1, 1), (2, 1)), ((4, 3),)]
>>> [finest_at(PATH, (1, 1)), coarsest_at(PATH, (1, 1)), finest_at(PATH, (3, 2)), chain(PATH), is_strength_paper(PATH, ((("a", "b"), ("c",)), ((("a", "b"), ("b", "c")),)))]
[(('a', 'b'), ('c',)), (('a', 'b', 'c'),), (('a', 'b'), ('c',)), ((('a', 'b', 'c'),), (('a', 'b'), ('c',)), (('a',), ('b',), ('c',))), True]
"""

CROWDS = """
>>> [crowding(FULL), crowding(RING), crowding(PATH), crowding(HUB), crowded_lots(HUB), greatest_crowds(HUB), greatest_crowds(PATH)]
[(2, 1), (4, 3), (2, 1), (2, 1), (('a', 'b', 'z'), ('a', 'z')), (('a', 'b', 'z'),), (('a', 'b'),)]
>>> [layers(PATH), is_crowding_paper(PATH, (("a", "b"), ((("a", "b"), ("b", "c")), (("a", "b"),)))), crowding(Net(("a", "b")))]
[{('a', 'b'): (2, 1), ('b', 'c'): (1, 1)}, True, (0, 1)]
"""

STREETS = """
>>> round_way = {("a", "b"): 1, ("b", "c"): 1, ("c", "d"): 1, ("d", "a"): 1}
>>> [least_entering(RING, round_way), one_way_number(RING, round_way, "a", "d"), most_folds(RING), most_folds(FULL), most_folds(PATH), most_folds(Net(("a",))), least_entering(RING, even_streets(RING))]
[1, 1, 1, 1, 0, None, 1]
>>> [is_folds_paper(PATH, 1, ("lot", ("c",))), folds_paper(RING, 1)[0], is_one_way_paper(RING, round_way, "d", "b", ((("d", "a", "b"),), ("b",))), turned_about(PATH, {("a", "b"): 2, ("c", "b"): 1})]
[True, 'streets', True, {('b', 'a'): 2, ('b', 'c'): 1}]
>>> even_streets(HUB)
raises Refused
"""

ROOTED = """
>>> [most_rooted(RING, round_way, "a"), rooted_paper(RING, round_way, ("a",)), rooted_paper(RING, round_way, ("a", "b"))[0], is_rooted_paper(RING, round_way, ("a", "b"), ("lot", ("c",)))]
[1, ('trees', ({'b': 'a', 'c': 'b', 'd': 'c'},)), 'lot', True]
>>> both_ways = {("a", "b"): 1, ("b", "a"): 1, ("b", "c"): 1}
>>> [is_rooted_tree(PATH, both_ways, "a", {"b": "a", "c": "b"}), is_rooted_tree(PATH, both_ways, "c", {"a": "b", "b": "c"}), most_rooted(PATH, both_ways, "c"), depths(PATH, both_ways, "b", {"a": "b", "c": "b"}), rooted_paper(PATH, both_ways, ())]
[True, False, 0, {'a': 1, 'b': 0, 'c': 1}, ('trees', ())]
"""

PAST = """
>>> [pairs_at(HUB, "z"), keeping_pairs(HUB, "z"), led_past(HUB, "z", ("b", "c")).ties, past_paper(HUB, "z", ("a", "c"))[0], is_past_paper(HUB, "z", ("b", "c"), ("loses", "a", "b", ("a", "z")))]
[(('a', 'a'), ('a', 'b'), ('a', 'c'), ('b', 'c')), (('a', 'b'), ('a', 'c')), {('a', 'b'): 1, ('a', 'z'): 2, ('b', 'c'): 1}, 'keeps', True]
>>> [is_whole_row(HUB, "z", (("a", "b"), ("a", "c"))), is_whole_row(HUB, "z", (("a", "a"), ("b", "c"))), whole_row(FULL, "a"), whole_row(RING, "b"), pinched(PATH, "z", (("a", "b"), ("c", "c"))).ties]
[True, False, None, (('a', 'c'),), {('a', 'b'): 1, ('a', 'z'): 1, ('b', 'c'): 1, ('b', 'z'): 1, ('c', 'z'): 2}]
"""

CARRIED = """
>>> row = (("a", "b"), ("a", "c"))
>>> [carried_numbers(HUB, "z"), carried_net(HUB, "z", row).ties, is_carried(HUB, "z", Net(("a", "b", "c"), {("a", "b"): 2, ("b", "c"): 1})), is_carried(HUB, "z", PATH.untied("a", "b"))]
[{('a', 'b'): 2, ('a', 'c'): 1, ('b', 'c'): 1}, {('a', 'b'): 2, ('a', 'c'): 1}, True, False]
>>> [is_carried_tree(HUB, "z", (("a", "b", 2), ("a", "c", 1))), is_carried_tree(HUB, "z", (("a", "b", 2), ("a", "c", 2))), taken_back(RING, "b", (("a", "c"),), {("a", "c"): 1, ("c", "d"): 1, ("d", "a"): 1}) == round_way]
[True, False, True]
>>> thrice = Net(("a", "b", "c", "z"), {("a", "z"): 2, ("b", "z"): 2, ("c", "z"): 2})
>>> [most_trees(thrice), most_trees(carried_net(thrice, "z", (("a", "b"), ("a", "c"), ("b", "c"))))]
[2, 1]
"""

MORE_CUTS = """
>>> [fewest_raising(HUB), fewest_raising(RING), fewest_raising(FULL), raising(Net(("a", "b"), {("a", "b"): 3})), is_raising(RING, (("a", "c"), ("b", "d"))), is_raising(RING, (("a", "b"), ("c", "d"))), is_raising(PATH, (("a", "c"),))]
[1, 2, 2, (('a', 'b'),), True, False, True]
>>> [is_raising_paper(RING, ((("a", "c"), ("b", "d")), leaves(RING))), is_raising_paper(PATH, ((("b", "c"),), (("a", "b"), ("c",)))), with_ties(PATH, (("a", "c"),))[("c",)]]
[True, True, 2]
"""

MORE_TREES = """
>>> [lack(RING, 2), lack(FULL, 2), lack(PATH, 2), lack(Net(("a", "b")), 3), worst_partings(PATH, 2), coarsest_worst(PATH, 2), needed_pairs(PATH, 2), coarsest_worst(FULL, 2)]
[2, 0, 1, 3, ((('a',), ('b',), ('c',)), (('a', 'b'), ('c',))), (('a', 'b'), ('c',)), (('a', 'c'), ('b', 'c')), None]
>>> [len(filling(RING, 2)), is_filling(PATH, 2, (("a", "c"),)), is_filling(PATH, 2, (("a", "b"),)), filling(FULL, 1), is_filling_paper(PATH, 2, ((("a", "c"),), ((("a", "b"), ("b", "c")), (("a", "b"), ("a", "c"))), (("a", "b"), ("c",))))]
[2, True, False, (), True]
"""

GAME = """
>>> start = ({}, {})
>>> [winner(FULL, start, "cutter"), winner(RING, start, "keeper"), winner(PATH, start, "cutter"), winner(PATH, start, "keeper"), best_move(PATH, start, "keeper"), best_move(RING, start, "keeper")]
['keeper', 'cutter', 'cutter', 'keeper', ('b', 'c'), None]
>>> [is_game_paper(PATH, start, "keeper", ("move", ("b", "c"), (("a", "b"),), (("a", "b"),))), is_game_paper(RING, start, "keeper", ("bar", (("a",), ("b",), ("c",), ("d",)))), is_best_move(PATH, start, "cutter", ("b", "c")), free(PATH, ({("a", "b"): 1}, {}))]
[True, True, True, {('a', 'b'): 1, ('b', 'c'): 1}]
>>> play = Play(PATH)
>>> [play.move("a", "b"), play.turn, play.reply(), play.position, play.winner, play.undo(), str(play)]
['cutter', 'keeper', ('a', 'b'), ({('a', 'b'): 1}, {('a', 'b'): 1}), 'cutter', 1, 'play of 1 moves, cutter wins']
"""

LIVE = """
>>> live = Live(PATH)
>>> [facts(PATH), live.tie("b", "c"), live["forests"], live.pin(("trees", 2)), live.log]
[{'crowding': (2, 1), 'forests': 2, 'least': 1, 'strength': (1, 1), 'trees': 1}, (('least', 1, 2), ('strength', (1, 1), (2, 1)), ('trees', 1, 2)), 2, (), ('tie', 'pin')]
>>> live.untie("a", "b")
raises Refused
>>> [live.undo(many=2), live.net == PATH, live.redo(), live.pins, str(live), live.during(lambda same: same.untie("a", "b"))[0], live["least"]]
[(('least', 2, 1), ('strength', (2, 1), (1, 1)), ('trees', 2, 1)), True, (('least', 1, 2), ('strength', (1, 1), (2, 1)), ('trees', 1, 2)), (), 'net of 3 places, 4 ties; 0 pins', ('least', 2, 1), 2]
"""

TEXTS = """
>>> [write("parting", (("a", "b"), ("c",))), write("forest", ()), write("streets", {("c", "b"): 1, ("a", "b"): 2}), write("net", PATH), write("claim", ("strength", (3, 2)))]
['a b | c', '-', 'a>b:2 c>b:1', 'a b c\\na-b:2\\nb-c:1', 'strength 3/2']
>>> [read("net", "a b c\\na-b:2\\nb-c:1") == PATH, read("tree", "a-b:2 b-c:1"), read("claim", "number a z 3"), is_text("forest", "b-a"), is_text("lot", "-")]
[True, (('a', 'b', 2), ('b', 'c', 1)), ('number', 'a', 'z', 3), False, True]
>>> read("net", "a b\\na-c")
raises ParseError
"""

SHELL = """
>>> shell = Shell()
>>> [shell.tell("least"), shell.tell("net a b c; a-b:2; b-c:1"), shell.tell("tie b c 1"), shell.tell("pin trees 2"), shell.tell("untie a b 1"), shell.tell("strength")]
['error InvalidNet', 'ok', 'least 1 2; strength 1/1 2/1; trees 1 2', '-', 'error Refused', '2/1']
>>> [shell.tell("number a c"), shell.tell("pins"), shell.tell("show"), shell.tell("undo 2"), shell.tell("jump"), shell.tell_all(("add d", "least")), len(shell)]
['2', 'trees 2', 'a b c; a-b:2; b-c:2', 'least 2 1; strength 2/1 1/1; trees 2 1', 'error ParseError', ('least 1 0; strength 1/1 0/1; trees 1 0', '0'), 10]
"""

MODULES = (
    words, nets, lots, numbers, trees, cuts, webs, joins, odd_cuts, packed, covers, turned, strength, crowds, streets,
    rooted, pairs, carried, more_cuts, more_trees, game, live, texts, shell)
# "The examples use the values of earlier examples."
ROUND_WAY = STREETS[:STREETS.index("\n", 1)]
# The document shows an error by its name alone, where Python shows where it was raised.
RAISES = "raises "


class TestExamples(unittest.TestCase):
    def check(self, text):
        """Run the examples of a section; the nets of the document are there for all of them."""
        known = {name: vars(module)[name] for module in MODULES for name in vars(module) if name[0] != "_"}
        text = (NETS + text).replace("\n" + RAISES, "\nTraceback (most recent call last):\n  ...\n")
        test = doctest.DocTestParser().get_doctest(text, known, "document", None, 0)
        self.assertGreater(len(test.examples), 4)
        lines = []
        found = doctest.DocTestRunner(optionflags=doctest.IGNORE_EXCEPTION_DETAIL).run(test, out=lines.append)
        self.assertEqual(found.failed, 0, "".join(lines))

    def test_words(self):
        self.check(WORDS)

    def test_nets(self):
        self.check(MADE_NETS)

    def test_lots(self):
        self.check(LOTS)

    def test_numbers(self):
        self.check(NUMBERS)

    def test_trees(self):
        self.check(TREES)

    def test_cuts(self):
        self.check(CUTS)

    def test_webs(self):
        self.check(WEBS)

    def test_joins(self):
        self.check(JOINS)

    def test_odd_cuts(self):
        self.check(ODD_CUTS)

    def test_packed(self):
        self.check(PACKED)

    def test_covers(self):
        self.check(COVERS)

    def test_turned(self):
        self.check(TURNED)

    def test_strength(self):
        self.check(STRENGTH)

    def test_crowds(self):
        self.check(CROWDS)

    def test_streets(self):
        self.check(STREETS)

    def test_rooted(self):
        self.check(ROUND_WAY + ROOTED)

    def test_past(self):
        self.check(PAST)

    def test_carried(self):
        self.check(ROUND_WAY + CARRIED)

    def test_more_cuts(self):
        self.check(MORE_CUTS)

    def test_more_trees(self):
        self.check(MORE_TREES)

    def test_game(self):
        self.check(GAME)

    def test_live(self):
        self.check(LIVE)

    def test_texts(self):
        self.check(TEXTS)

    def test_shell(self):
        self.check(SHELL)


if __name__ == "__main__":
    unittest.main()
