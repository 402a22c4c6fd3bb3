"""Rooted trees, beside a second way of counting over all ways of choosing the places ahead, and over all lots."""

import itertools
import unittest

from holdsfast.base.nets import Net
from holdsfast.errors import InvalidNet, InvalidOperation, UnknownPlace
from holdsfast.ways.rooted import (
    MAX_ROOTS, depths, is_rooted_paper, is_rooted_tree, most_rooted, rooted_paper,
)
from holdsfast.ways.streets import even_streets, folds_paper, most_folds
from tests.helpers import (
    APART, CROWD, EXAMPLES, FULL, HUB, HUGE, ODD_VALUES, PATH, POINT, RING, SEVEN, TWO, Refusals, all_subsets,
    changed_values, counting_lots, is_labelled, is_plain_lot, mixed_nets, raised, same, small_nets, some_streets,
    turned_ways, wrong_nets,
)
from tests.test_turned import TURN, count_entering

BARE = Net(("a", "b", "c"))
ROUND = {("a", "b"): 1, ("b", "c"): 1, ("c", "d"): 1, ("d", "a"): 1}
THIRD = Net(("a", "b", "c"), {("a", "b"): 2, ("a", "c"): 2, ("b", "c"): 2})
TINY = (POINT, TWO, PATH, RING, HUB, BARE, THIRD, Net(tuple("abcd"), {("a", "b"): 2, ("c", "d"): 1}))
NETS = EXAMPLES + tuple(small_nets()[::5]) + tuple(mixed_nets(40, 150))


def all_rooted(net, streets, root):
    """Find all rooted trees by trying all places ahead of each place."""
    others = [place for place in net.places if place != root]
    found = []
    for heads in itertools.product(net.places, repeat=len(others)):
        tree = dict(zip(others, heads))
        if all(step in streets for step in ((tree[place], place) for place in others)):
            if all(count_steps(tree, place) is not None for place in others):
                found.append(tree)
    return found


def count_steps(tree, place):
    """Go on to the place ahead until there is none; None if that does not end."""
    for steps in range(len(tree) + 1):
        if place not in tree:
            return steps
        place = tree[place]
    return None


def can_pack(net, streets, roots):
    """Try all rooted trees for one root after another."""
    if not roots:
        return True
    for tree in all_rooted(net, {step: many for step, many in streets.items() if many}, roots[0]):
        left = dict(streets)
        for place, ahead in tree.items():
            left[ahead, place] -= 1
        if can_pack(net, left, roots[1:]):
            return True
    return False


def is_right_tree(net, streets, root, value):
    if type(value) is not dict or sorted(map(repr, value)) != sorted(repr(place) for place in net.places if place != root):
        return False
    if not all(type(ahead) is str and (ahead, place) in streets for place, ahead in value.items()):
        return False
    return all(count_steps(value, place) is not None for place in value)


def is_right_paper(net, streets, roots, value):
    if is_labelled(value, "trees"):
        trees = value[1]
        if type(trees) is not tuple or len(trees) != len(roots):
            return False
        left = [step for step, many in streets.items() for _ in range(many)]
        for root, tree in zip(roots, trees):
            if not is_right_tree(net, streets, root, tree):
                return False
            for place, ahead in tree.items():
                if (ahead, place) not in left:
                    return False
                left.remove((ahead, place))
        return True
    if is_labelled(value, "lot"):
        lot = value[1]
        if not is_plain_lot(net, lot) or lot not in counting_lots(net):
            return False
        return count_entering(streets, lot) < sum(1 for root in roots if root not in lot)
    return False


def are_short(net, streets, roots):
    return [lot for lot in counting_lots(net)
            if count_entering(streets, lot) < sum(1 for root in roots if root not in lot)]


class TestTrees(unittest.TestCase):
    def test_all_small_trees(self):
        for net in TINY:
            for streets in list(turned_ways(net))[::3]:
                for root in net.places:
                    others = [place for place in net.places if place != root]
                    found = all_rooted(net, streets, root)
                    for heads in itertools.product(net.places, repeat=len(others)):
                        tree = dict(zip(others, heads))
                        self.assertIs(is_rooted_tree(net, streets, root, tree), tree in found)
                    for tree in found:
                        self.check_depths(net, streets, root, tree)

    def check_depths(self, net, streets, root, tree):
        back = {place: tree[place] for place in list(tree)[::-1]}
        self.assertIs(is_rooted_tree(net, streets, root, back), True)
        found = depths(net, streets, root, back)
        self.assertTrue(same(found, {place: count_steps(tree, place) for place in net.places}), (tree, found))
        self.assertEqual(found[root], 0)

    def test_edges(self):
        self.assertIs(is_rooted_tree(POINT, {}, "a", {}), True)
        self.assertIs(is_rooted_tree(POINT, {}, "a", {"a": "a"}), False)
        self.assertEqual(depths(POINT, {}, "a", {}), {"a": 0})
        self.assertIs(is_rooted_tree(TWO, {("a", "b"): 3}, "a", {"b": "a"}), True)
        self.assertIs(is_rooted_tree(TWO, {("a", "b"): 3}, "b", {"a": "b"}), False)
        self.assertIs(is_rooted_tree(RING, ROUND, "a", {"b": "a", "c": "b", "d": "c"}), True)
        self.assertIs(is_rooted_tree(RING, ROUND, "a", {"b": "a", "c": "b", "d": "c", "a": "d"}), False)
        # Two places are ahead of one another: the root is not reached.
        both = {("a", "b"): 1, ("b", "a"): 1, ("b", "c"): 1}
        self.assertIs(is_rooted_tree(PATH, both, "c", {"a": "b", "b": "a"}), False)
        self.assertEqual(depths(RING, ROUND, "c", {"d": "c", "a": "d", "b": "a"}), {"a": 2, "b": 3, "c": 0, "d": 1})

    def test_one_thing_changed(self):
        for net, streets, root in ((PATH, {("a", "b"): 1, ("b", "a"): 1, ("b", "c"): 1}, "b"), (RING, ROUND, "a"),
                                   (TWO, {("b", "a"): 3}, "b"), (POINT, {}, "a")):
            for tree in all_rooted(net, streets, root):
                for value in changed_values(tree):
                    right = is_right_tree(net, streets, root, value)
                    self.assertIs(is_rooted_tree(net, streets, root, value), right, value)


class TestMost(unittest.TestCase):
    def test_by_packing(self):
        for net in TINY:
            for streets in list(turned_ways(net))[::4]:
                for root in net.places if len(net.places) > 1 else ():
                    most = most_rooted(net, streets, root)
                    self.assertIs(type(most), int)
                    self.assertTrue(can_pack(net, streets, (root,) * most))
                    self.assertFalse(can_pack(net, streets, (root,) * (most + 1)))

    def test_by_lots(self):
        for seed, net in enumerate(NETS):
            for streets in some_streets(net, 2, seed):
                for root in net.places:
                    least = min((count_entering(streets, lot) for lot in counting_lots(net) if root not in lot), default=None)
                    self.assertTrue(same(most_rooted(net, streets, root), least))
        self.assertIsNone(most_rooted(POINT, {}, "a"))
        self.assertEqual(most_rooted(BARE, {}, "b"), 0)

    def test_folds_give_as_many_from_each_root(self):
        for net in mixed_nets(40, 151) + [SEVEN, CROWD]:
            many = most_folds(net)
            if many:
                streets = folds_paper(net, many)[1]
                for roots in (net.places[:1] * many, (net.places * many)[:many], net.places[::-1][:many]):
                    self.assertEqual(rooted_paper(net, streets, roots)[0], "trees")


class TestPapers(unittest.TestCase):
    def check_paper(self, net, streets, roots):
        before = dict(streets)
        paper = rooted_paper(net, streets, roots)
        self.assertEqual(paper[0], "lot" if are_short(net, streets, roots) else "trees", (net.ties, streets, roots))
        self.assertTrue(is_right_paper(net, streets, roots, paper), (net.ties, streets, roots, paper))
        self.assertIs(is_rooted_paper(net, streets, roots, paper), True)
        if paper[0] == "trees":
            self.assertTrue(all(list(tree) == sorted(tree) for tree in paper[1]))
        back = {step: streets[step] for step in list(streets)[::-1]}
        self.assertTrue(same(rooted_paper(net, back, roots), paper))
        self.assertEqual(streets, before)
        return paper

    def test_tiny_nets_by_packing(self):
        for net in TINY:
            for streets in list(turned_ways(net))[::4]:
                for many in range(4):
                    for roots in list(itertools.product(net.places, repeat=many))[::3]:
                        paper = self.check_paper(net, streets, roots)
                        self.assertEqual(paper[0] == "trees", can_pack(net, streets, roots))

    def test_other_nets(self):
        for seed, net in enumerate(NETS):
            streets = some_streets(net, 1, seed + 7)[0]
            rows = [(), net.places, net.places[:2] * 2, net.places[-1:] * 30]
            for root in net.places if len(net.places) > 1 else ():
                rows.append((root,) * min(most_rooted(net, streets, root), 30))
            for roots in rows:
                self.check_paper(net, streets, roots[:30])

    def test_many_roots(self):
        for net in (CROWD, SEVEN.times(2), THIRD.times(8), Net(("a", "b")).joined("a", "b", 60), FULL.times(10)):
            streets = even_streets(net)
            most = least = most_folds(net)
            for roots in itertools.islice(itertools.product(net.places, repeat=2), 5):
                many = (roots * least)[:min(least, 30)]
                self.assertEqual(self.check_paper(net, streets, many)[0], "trees")
            self.assertEqual(self.check_paper(net, streets, net.places[:1] * min(most + 1, 30))[0],
                             "lot" if most < 30 else "trees")

    def test_all_answers_are_taken(self):
        for net in TINY:
            for streets in list(turned_ways(net))[::5]:
                for roots in ((), net.places[:1], net.places[-1:], net.places[:2], net.places[-1:] * 2):
                    trees = [all_rooted(net, streets, root) for root in roots]
                    values = [("trees", row) for row in list(itertools.product(*trees))[:30]]
                    values += [("lot", lot) for lot in all_subsets(net.places)]
                    for value in values:
                        self.assertIs(is_rooted_paper(net, streets, roots, value),
                                      is_right_paper(net, streets, roots, value), (streets, roots, value))

    def test_edges(self):
        self.assertEqual(rooted_paper(POINT, {}, ()), ("trees", ()))
        self.assertEqual(rooted_paper(POINT, {}, ("a",) * 30), ("trees", ({},) * 30))
        self.assertIs(is_rooted_paper(POINT, {}, ("a", "a"), ("trees", ({},))), False)
        self.assertIs(is_rooted_paper(POINT, {}, ("a",), ("lot", ("a",))), False)
        self.assertEqual(rooted_paper(BARE, {}, ()), ("trees", ()))
        self.assertEqual(rooted_paper(BARE, {}, ("b",))[0], "lot")
        self.assertEqual(rooted_paper(APART, {("a", "b"): 2, ("c", "e"): 1}, ("a",))[0], "lot")
        self.assertEqual(rooted_paper(TWO, {("a", "b"): 2, ("b", "a"): 1}, ("b", "a", "a")),
                         ("trees", ({"a": "b"}, {"b": "a"}, {"b": "a"})))
        self.assertEqual(MAX_ROOTS, 30)

    def test_one_thing_changed(self):
        both = {("a", "b"): 1, ("b", "a"): 1, ("b", "c"): 1}
        for net, streets, roots in ((PATH, both, ("b",)), (PATH, both, ("b", "c")), (RING, ROUND, ("a",)), (POINT, {}, ("a",)),
                                    (TWO, {("a", "b"): 2, ("b", "a"): 1}, ("b", "a")), (RING, ROUND, ("a", "b"))):
            for value in changed_values(rooted_paper(net, streets, roots)):
                self.assertIs(is_rooted_paper(net, streets, roots, value),
                              is_right_paper(net, streets, roots, value), (streets, roots, value))


class TestRefusals(Refusals, unittest.TestCase):
    def told(self):
        wrong = [(value, (InvalidOperation, None)) for value in ODD_VALUES + (
            {("a", "b"): 2}, {("a", "b"): 1, ("b", "a"): True, ("c", "b"): 1}, list(TURN), {**TURN, ("a", "c"): 1},
            {("a", "b"): 2, ("b", "c"): HUGE}, PATH.times(2).ties)]
        return [("net", PATH, wrong_nets()), ("streets", TURN, wrong)]

    def roots(self):
        return [("root", "a", [(value, (UnknownPlace, value)) for value in ODD_VALUES if value not in ("a", "b")])]

    def test_root(self):
        told = self.told() + self.roots()
        self.check_refusals(most_rooted, told)
        for value in (None, {}, {"b": "c", "a": "b"}):
            self.check_refusals(lambda net, streets, root: is_rooted_tree(net, streets, root, value), told)
        right = {"b": "c", "a": "b"}
        trees = [(value, (InvalidOperation, None)) for value in ODD_VALUES + (
            {"a": "b"}, {"a": "b", "b": "a"}, {"a": "c", "b": "c"}, {**right, "c": "b"}, list(right), {"a": "b", "b": ["c"]},
            {"a": "b", "q": "c"})]
        told[2] = ("root", "c", told[2][2])
        self.check_refusals(depths, told + [("tree", right, trees)])
        self.assertEqual(raised(depths, POINT, {}, "a", {"a": "a"}), (InvalidOperation, None))
        self.assertEqual(raised(most_rooted, POINT, {}, "b"), (UnknownPlace, "b"))

    def test_roots(self):
        wrong = [(value, (InvalidOperation, None)) for value in ODD_VALUES if not isinstance(value, tuple)]
        wrong += [(("a",) * 31, (InvalidOperation, None)), (("q",) * 31, (InvalidOperation, None)), (["a"], (InvalidOperation, None))]
        for value, kept in ((("a", "q", "r"), "q"), (("a", None), None), ((["a"], "q"), ["a"]), ((("a",),), ("a",)), ((1, "q"), 1),
                            (("a",) * 29 + ("",), ""), ((True,), True), (({},), {})):
            wrong.append((value, (UnknownPlace, kept)))
        told = self.told() + [("roots", ("a", "b"), wrong)]
        self.check_refusals(rooted_paper, told)
        for value in (None, ("lot", ("c",)), ("trees", ())):
            self.check_refusals(lambda net, streets, roots: is_rooted_paper(net, streets, roots, value), told)
        self.assertIsNone(raised(rooted_paper, PATH, TURN, ("c",) * 30))
        self.assertEqual(raised(rooted_paper, PATH, TURN, ("c",) * 31), (InvalidOperation, None))
        self.assertEqual(raised(rooted_paper, POINT, {}, ("a", "b")), (UnknownPlace, "b"))
        self.assertEqual(raised(rooted_paper, None, {}, None), (InvalidNet, None))

    def test_judges_take_every_value(self):
        for net, streets in ((PATH, TURN), (RING, ROUND), (TWO, {("b", "a"): 3}), (BARE, {})):
            for root in net.places[:2]:
                right = [value for value in ODD_VALUES if is_right_tree(net, streets, root, value)]
                self.check_judge(is_rooted_tree, net, streets, root, right=right)
                self.check_judge(is_rooted_paper, net, streets, (root,))
        self.check_judge(is_rooted_tree, POINT, {}, "a", right=[{}])
        self.check_judge(is_rooted_paper, POINT, {}, ())


if __name__ == "__main__":
    unittest.main()
