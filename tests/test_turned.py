"""Turned ties, beside a second way of counting over all ways of turning them and over all lots."""

import itertools
import random
import unittest

from holdsfast.base.nets import Net
from holdsfast.errors import InvalidLot, InvalidNet, InvalidOperation, Refused, UnknownPlace
from holdsfast.trees.turned import (
    MAX_TOLD, coming_in, entering, is_streets, is_told_paper, least_in, reversed_way, told_paper,
)
from tests.helpers import (
    APART, CROWD, EXAMPLES, FULL, HUB, HUGE, ODD_VALUES, PATH, POINT, RING, SEVEN, TWO, Refusals, all_subsets,
    changed_values, count_inside, count_numbers, counting_lots, is_labelled, is_plain_lot, mixed_nets, raised, same,
    small_nets, tie_list, turned_ways, wrong_nets,
)

BARE = Net(("a", "b", "c"))
TURN = {("a", "b"): 1, ("b", "a"): 1, ("c", "b"): 1}
TINY = (POINT, TWO, PATH, RING, FULL, HUB, BARE, Net(tuple("abcd"), {("a", "b"): 2, ("c", "d"): 1}))
NETS = EXAMPLES + tuple(small_nets()[::3]) + tuple(mixed_nets(25, 110))


def is_right_streets(net, value):
    if type(value) is not dict or not count_numbers(value):
        return False
    if not all(type(step) is tuple and all(type(place) is str for place in step) and len(step) == 2 for step in value):
        return False
    if any(one == other for one, other in value) or any(tuple(sorted(step)) not in net.pairs for step in value):
        return False
    return all(value.get(pair, 0) + value.get(pair[::-1], 0) == tie_list(net).count(pair) for pair in net.pairs)


def count_in(net, streets):
    heads = [other for (_, other), many in streets.items() for _ in range(many)]
    return {place: heads.count(place) for place in net.places}


def count_entering(streets, lot):
    return sum(many for (one, other), many in streets.items() if other in lot and one not in lot)


def all_crowds(net, told):
    return [lot for lot in all_subsets(net.places) if count_inside(net, lot) > sum(told[place] for place in lot)]


def is_right_told_paper(net, told, just, value):
    if is_labelled(value, "streets"):
        if not is_right_streets(net, value[1]):
            return False
        coming = count_in(net, value[1])
        return coming == told if just else all(coming[place] <= told[place] for place in told)
    if is_labelled(value, "crowd"):
        return is_plain_lot(net, value[1]) and value[1] in all_crowds(net, told)
    return same(value, ("spare",)) and just is True and sum(told.values()) > len(tie_list(net))


def some_told(net, many, seed):
    """Told numbers near to halves of the ties of the places, as a seed tells."""
    numbers = random.Random(seed)
    half = {place: sum(1 for tie in tie_list(net) if place in tie) // 2 for place in net.places}
    return [{place: min(60, max(0, half[place] + numbers.choice((-2, -1, 0, 0, 1, 1, 2, 4)))) for place in net.places}
            for _ in range(many)]


class TestStreets(unittest.TestCase):
    def test_all_streets(self):
        for net in TINY:
            rows = list(turned_ways(net))
            for streets in rows:
                self.assertIs(is_streets(net, streets), True)
                back = {step: streets[step] for step in list(streets)[::-1]}
                self.assertIs(is_streets(net, back), True)
                self.assertTrue(same(coming_in(net, back), count_in(net, streets)))
                for lot in counting_lots(net):
                    self.assertTrue(same(entering(net, streets, lot), count_entering(streets, lot)))

    def test_all_numbers_of_streets(self):
        for net in (PATH, TWO, BARE, Net(("a", "b", "c"), {("a", "b"): 1, ("a", "c"): 1})):
            steps = list(itertools.permutations(net.places, 2))
            rows = list(turned_ways(net))
            for counts in itertools.product(range(3), repeat=len(steps)):
                value = {step: many for step, many in zip(steps, counts) if many}
                self.assertIs(is_streets(net, value), value in rows, (net.ties, value))

    def test_one_thing_changed(self):
        for net, streets in ((PATH, TURN), (TWO, {("b", "a"): 3}), (TWO, {("a", "b"): 2, ("b", "a"): 1}), (BARE, {})):
            for value in changed_values(streets):
                self.assertIs(is_streets(net, value), is_right_streets(net, value), value)
        one = Net(("a", "b"), {("a", "b"): 1})
        self.assertEqual([is_streets(one, {("b", "a"): many}) for many in (1, True, 0, 2)], [True] + [False] * 3)
        self.assertIs(is_streets(one, {("b", "a"): 1, ("a", "b"): 0}), False)
        self.assertIs(is_streets(POINT, {}), True)


class TestTold(unittest.TestCase):
    def test_all_told_numbers_of_tiny_nets(self):
        for net in TINY:
            reached = {tuple(count_in(net, streets).values()) for streets in turned_ways(net)}
            most = 4 if len(net.places) < 4 else 3
            for counts in itertools.product(range(most), repeat=len(net.places)):
                told = dict(zip(net.places, counts))
                fits = any(all(x <= y for x, y in zip(row, counts)) for row in reached)
                self.assertEqual(fits, not all_crowds(net, told))
                self.check_paper(net, told, fits, counts in reached)

    def check_paper(self, net, told, fits, fits_just):
        paper = told_paper(net, told)
        self.assertEqual(paper[0], "streets" if fits else "crowd")
        self.assertTrue(is_right_told_paper(net, told, False, paper), (net.ties, told, paper))
        self.assertIs(is_told_paper(net, told, paper), True)
        self.assertEqual(told_paper(net, dict(list(told.items())[::-1]), just=False), paper)
        just = told_paper(net, told, just=True)
        self.assertEqual(just[0] == "streets", fits_just)
        self.assertTrue(is_right_told_paper(net, told, True, just), (net.ties, told, just))
        self.assertIs(is_told_paper(net, told, just, just=True), True)
        self.assertIs(is_told_paper(net, told, paper, just=True), is_right_told_paper(net, told, True, paper))
        self.assertIs(is_told_paper(net, told, just), is_right_told_paper(net, told, False, just))
        for told_by in (paper, just):
            if told_by[0] == "streets":
                self.assertEqual(list(told_by[1]), sorted(told_by[1]))

    def test_told_numbers_of_other_nets(self):
        for seed, net in enumerate(NETS):
            for told in some_told(net, 6, seed) + [{place: many for place in net.places} for many in (0, 60)]:
                fits = not all_crowds(net, told)
                self.check_paper(net, told, fits, fits and sum(told.values()) == len(tie_list(net)))

    def test_all_answers_are_taken(self):
        for net, told in ((PATH, {"a": 1, "b": 1, "c": 1}), (PATH, {"a": 2, "b": 3, "c": 0}), (PATH, {"a": 0, "b": 1, "c": 9}),
                          (RING, dict.fromkeys("abcd", 1)), (TWO, {"a": 1, "b": 1}), (POINT, {"a": 0}), (POINT, {"a": 3})):
            for just in (True, False):
                values = [("streets", streets) for streets in turned_ways(net)] + [("spare",)]
                values += [("crowd", lot) for lot in all_subsets(net.places)]
                for value in values:
                    self.assertIs(is_told_paper(net, told, value, just=just), is_right_told_paper(net, told, just, value))

    def test_more_than_one_kind_of_answer(self):
        told = {"a": 0, "b": 1, "c": 9}
        for value, right in ((("spare",), True), (("crowd", ("a", "b")), True), (("crowd", ("b", "c")), False)):
            self.assertIs(is_told_paper(PATH, told, value, just=True), right)
        self.assertIs(is_told_paper(PATH, told, ("spare",)), False)
        self.assertIs(is_told_paper(PATH, {"a": 1, "b": 1, "c": 1}, ("spare",), just=True), False)
        self.assertIn(told_paper(PATH, told, just=True), (("spare",), ("crowd", ("a", "b"))))
        self.assertEqual(told_paper(PATH, told), ("crowd", ("a", "b")))

    def test_one_thing_changed(self):
        for net, told in ((PATH, {"a": 1, "b": 1, "c": 1}), (PATH, {"a": 1, "b": 1, "c": 0}), (PATH, {"a": 5, "b": 0, "c": 0}),
                          (RING, dict.fromkeys("abcd", 1)), (BARE, dict.fromkeys("abc", 0)), (TWO, {"a": 9, "b": 0})):
            for just in (True, False):
                for paper in (told_paper(net, told, just=just), ("streets", TURN), ("spare",)):
                    for value in changed_values(paper):
                        self.assertIs(is_told_paper(net, told, value, just=just),
                                      is_right_told_paper(net, told, just, value), (told, just, value))

    def test_least_in(self):
        for net in TINY:
            least = min(max(count_in(net, streets).values()) for streets in turned_ways(net))
            self.assertTrue(same(least_in(net), least))
        for net in NETS:
            least = min(many for many in range(61) if not all_crowds(net, dict.fromkeys(net.places, many)))
            self.assertTrue(same(least_in(net), least))
            paper = told_paper(net, dict.fromkeys(net.places, least))
            self.assertEqual(paper[0], "streets")
        self.assertEqual([least_in(net) for net in (POINT, BARE, TWO, SEVEN, CROWD)], [0, 0, 2, 3, 10])
        self.assertEqual(least_in(Net(("a", "b")).joined("a", "b", 60)), 30)


class TestReversedWays(unittest.TestCase):
    def all_reversed(self, streets, one, other):
        """Turn each way along streets, and return all that comes out."""
        found = []

        def go(way):
            if way[-1] == other:
                turned = dict(streets)
                for near, far in zip(way, way[1:]):
                    turned[near, far] -= 1
                    turned[far, near] = turned.get((far, near), 0) + 1
                found.append({step: many for step, many in turned.items() if many})
                return
            for near, far in streets:
                if near == way[-1] and far not in way:
                    go(way + [far])
        go([one])
        return found

    def test_all_streets(self):
        for net in TINY + (APART.untied("a", "b"),):
            for streets in list(turned_ways(net))[::3]:
                for one, other in itertools.permutations(net.places, 2):
                    self.check_way(net, streets, one, other)

    def check_way(self, net, streets, one, other):
        rows = self.all_reversed(streets, one, other)
        if not rows:
            self.assertEqual(raised(reversed_way, net, streets, one, other), (Refused, (one, other)))
            return
        before = dict(streets)
        turned = reversed_way(net, streets, one, other)
        self.assertEqual(streets, before)
        self.assertIn(turned, rows)
        self.assertEqual(list(turned), sorted(turned))
        moved = {place: many + (place == one) - (place == other) for place, many in count_in(net, streets).items()}
        self.assertEqual(coming_in(net, turned), moved)
        self.assertEqual(reversed_way(net, dict(list(streets.items())[::-1]), one, other), turned)


class TestRefusals(Refusals, unittest.TestCase):
    def streets_told(self):
        wrong = [(value, (InvalidOperation, None)) for value in ODD_VALUES + (
            {("a", "b"): 2}, {("a", "b"): 1, ("b", "a"): True, ("c", "b"): 1}, {("a", "b"): 1, ("b", "a"): 2, ("c", "b"): 1},
            {("a", "b"): 2, ("c", "b"): 1, ("b", "c"): 0}, {("a", "b"): 2, ("b", "c"): HUGE}, list(TURN), {"ab": 3},
            {("a", "b"): 2, ("b", "c", "d"): 1}, {("a", "b"): 2, ("b", "q"): 1}, {("a", "b"): 2, ("b", ("c",)): 1},
            {("a", "b"): 2, ("b", "c"): -1}, {("a", "b"): 2, ("b", "c"): "1"}, PATH.times(2).ties)]
        return [("net", PATH, wrong_nets()), ("streets", TURN, wrong)]

    def test_streets(self):
        told = self.streets_told()
        self.check_refusals(coming_in, told)
        wrong = [value for value in ODD_VALUES if not is_plain_lot(PATH, value) or not value]
        lots = [(value, (InvalidLot, None)) for value in wrong + [PATH.places, ("b", "a"), ("a", "q"), ["a"]]]
        self.check_refusals(entering, told + [("lot", ("a",), lots)])
        unknown = [(value, (UnknownPlace, value)) for value in ODD_VALUES if value not in ("a", "b")]
        others = unknown + [("b", (InvalidOperation, None))]
        self.check_refusals(reversed_way, told + [("one", "b", unknown), ("other", "a", others)])
        self.assertEqual(raised(entering, POINT, {}, ("a",)), (InvalidLot, None))
        self.assertEqual(raised(entering, POINT, None, None), (InvalidOperation, None))
        self.assertEqual(raised(entering, None, None, None), (InvalidNet, None))

    def test_no_way(self):
        self.assertEqual(raised(reversed_way, PATH, TURN, "a", "c"), (Refused, ("a", "c")))
        self.assertEqual(raised(reversed_way, PATH, TURN, "b", "c"), (Refused, ("b", "c")))
        self.assertEqual(raised(reversed_way, PATH, TURN, "c", "c"), (InvalidOperation, None))
        self.assertEqual(raised(reversed_way, PATH, TURN, "q", "q"), (UnknownPlace, "q"))
        self.assertEqual(raised(reversed_way, PATH, {}, "a", "c"), (InvalidOperation, None))
        self.assertEqual(raised(reversed_way, BARE, {}, "a", "c"), (Refused, ("a", "c")))
        self.assertIsNone(raised(reversed_way, PATH, TURN, "c", "a"))

    def test_told_numbers(self):
        told = {"a": 1, "b": 1, "c": 1}
        wrong = [(value, (InvalidOperation, None)) for value in ODD_VALUES + (
            {"a": 1, "b": 1}, {**told, "d": 1}, {**told, "c": 61}, {**told, "c": -1}, {**told, "c": True}, {**told, "c": HUGE},
            {**told, "c": "1"}, {**told, "c": None}, {"a": 1, "b": 1, "q": 1}, list(told), tuple(told.items()),
            {"a": 1, "b": 1, ("c",): 1})]
        justs = [(value, (InvalidOperation, None)) for value in ODD_VALUES if type(value) is not bool]
        rows = [("net", PATH, wrong_nets()), ("told", told, wrong), ("just", True, justs)]
        self.check_refusals(told_paper, rows, named=("just",))
        for value in (("spare",), None, ("streets", TURN)):
            self.check_refusals(lambda net, told, just: is_told_paper(net, told, value, just=just), rows)
        self.check_refusals(least_in, rows[:1])
        self.assertEqual(MAX_TOLD, 60)
        self.assertIsNone(raised(told_paper, PATH, {"a": 60, "b": 0, "c": 60}))
        for just in (0, 1):
            self.assertEqual(raised(told_paper, PATH, told, just=just), (InvalidOperation, None))

    def test_judges_take_every_value(self):
        for value in (None, {}, ()):
            self.check_refusals(lambda net: is_streets(net, value), [("net", PATH, wrong_nets())])
        for net in (PATH, HUB, POINT, BARE, TWO):
            right = [value for value in ODD_VALUES if is_right_streets(net, value)]
            self.check_judge(is_streets, net, right=right)
            self.check_judge(is_told_paper, net, dict.fromkeys(net.places, 1))
            self.check_judge(lambda value: is_told_paper(net, dict.fromkeys(net.places, 1), value, just=True))
        one = Net(("a", "b"), {("a", "b"): 1})
        self.check_judge(is_streets, one, right=[{("a", "b"): 1}])


if __name__ == "__main__":
    unittest.main()
