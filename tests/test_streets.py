"""Streets, beside a second way of counting over all ways of turning ties, all ways along streets and all lots."""

import itertools
import unittest

from holdsfast.base.nets import Net
from holdsfast.errors import InvalidLot, InvalidNet, InvalidNumber, InvalidOperation, Refused, UnknownPlace
from holdsfast.trees.turned import coming_in, entering
from holdsfast.ways.streets import (
    even_streets, folds_paper, is_folds_paper, is_one_way_paper, least_entering, most_folds, one_way_number,
    one_way_paper, turned_about,
)
from tests.helpers import (
    APART, CROWD, EXAMPLES, FULL, HUB, HUGE, ODD_VALUES, PATH, POINT, RING, SEVEN, TWO, Refusals, all_subsets,
    changed_values, count_cut, counting_lots, is_labelled, is_plain_lot, is_two, mixed_nets, raised, same, small_nets,
    some_streets, turned_ways, wrong_nets,
)
from tests.test_turned import TURN, count_entering, is_right_streets

BARE = Net(("a", "b", "c"))
ROUND = {("a", "b"): 1, ("b", "c"): 1, ("c", "d"): 1, ("d", "a"): 1}
TINY = (TWO, PATH, RING, FULL, HUB, BARE, Net(tuple("abcd"), {("a", "b"): 2, ("c", "d"): 1}),
        Net(("a", "b", "c"), {("a", "b"): 2, ("a", "c"): 2, ("b", "c"): 2}))
NETS = EXAMPLES + tuple(small_nets()[::3]) + tuple(mixed_nets(40, 140))


def is_right_one_way_paper(net, streets, one, other, value):
    if not is_two(value) or type(value[0]) is not tuple or not is_plain_lot(net, value[1]):
        return False
    ways, lot = value
    left = [step for step, many in streets.items() for _ in range(many)]
    for way in ways:
        if type(way) is not tuple or not all(type(place) is str for place in way) or len(set(way)) < len(way):
            return False
        if way[:1] != (one,) or way[-1:] != (other,):
            return False
        for step in zip(way, way[1:]):
            if step not in left:
                return False
            left.remove(step)
    return other in lot and one not in lot and count_entering(streets, lot) == len(ways)


def is_right_folds_paper(net, many, value):
    if is_labelled(value, "streets"):
        if not is_right_streets(net, value[1]):
            return False
        return all(count_entering(value[1], lot) >= many for lot in counting_lots(net))
    if is_labelled(value, "lot"):
        return is_plain_lot(net, value[1]) and value[1] in counting_lots(net) and count_cut(net, value[1]) < 2 * many
    return False


class TestOneWay(unittest.TestCase):
    def test_tiny_nets(self):
        for net in TINY:
            for streets in list(turned_ways(net))[::2]:
                self.check_all(net, streets)

    def test_other_nets(self):
        for seed, net in enumerate(NETS):
            for streets in some_streets(net, 2, seed):
                self.check_all(net, streets)

    def check_all(self, net, streets):
        before = dict(streets)
        for one, other in itertools.permutations(net.places, 2):
            entered = {lot: count_entering(streets, lot) for lot in counting_lots(net) if other in lot and one not in lot}
            least = min(entered.values())
            self.assertTrue(same(one_way_number(net, streets, one, other), least))
            ways, lot = one_way_paper(net, streets, one, other)
            self.assertEqual((len(ways), entered[lot]), (least, least))
            self.assertTrue(is_right_one_way_paper(net, streets, one, other, (ways, lot)), (streets, one, other, ways, lot))
            self.assertIs(is_one_way_paper(net, streets, one, other, (ways, lot)), True)
            self.assertIs(is_one_way_paper(net, streets, one, other, (ways[::-1], lot)), True)
            self.assertIs(is_one_way_paper(net, streets, one, other, (ways[1:], lot)), not ways)
            back = {step: streets[step] for step in list(streets)[::-1]}
            self.assertEqual(one_way_paper(net, back, one, other), (ways, lot))
        self.assertEqual(streets, before)

    def test_all_small_families(self):
        for net, streets in ((PATH, TURN), (TWO, {("a", "b"): 2, ("b", "a"): 1}), (RING, ROUND)):
            rows = [way for size in range(4) for way in itertools.product(net.places, repeat=size)]
            for one, other in itertools.permutations(net.places[:3], 2):
                for size in range(3 if len(rows) < 50 else 2):
                    for ways in itertools.product(rows, repeat=size):
                        for lot in all_subsets(net.places)[::2]:
                            expected = is_right_one_way_paper(net, streets, one, other, (ways, lot))
                            self.assertIs(is_one_way_paper(net, streets, one, other, (ways, lot)), expected, (ways, lot))

    def test_one_thing_changed(self):
        for net, streets, one, other in ((PATH, TURN, "c", "a"), (PATH, TURN, "a", "c"), (RING, ROUND, "a", "d"),
                                         (TWO, {("a", "b"): 2, ("b", "a"): 1}, "a", "b"), (BARE, {}, "b", "c")):
            for value in changed_values(one_way_paper(net, streets, one, other)):
                self.assertIs(is_one_way_paper(net, streets, one, other, value),
                              is_right_one_way_paper(net, streets, one, other, value), value)
        self.assertIs(is_one_way_paper(PATH, TURN, "c", "a", ((("c", "b", "a"),), ("a", "b"))), True)
        self.assertIs(is_one_way_paper(PATH, TURN, "c", "a", ((("c", "b", "a"),), ("c",))), False)
        self.assertIs(is_one_way_paper(PATH, TURN, "c", "a", ((("c", "b", "a", "b", "a"),), ("a",))), False)


class TestEntering(unittest.TestCase):
    def test_least_entering(self):
        for seed, net in enumerate(NETS):
            for streets in some_streets(net, 2, seed) if len(net.places) > 1 else ():
                least = min(count_entering(streets, lot) for lot in counting_lots(net))
                self.assertTrue(same(least_entering(net, streets), least))
                about = turned_about(net, streets)
                self.assertTrue(same(about, {step: streets[step[::-1]] for step in sorted(step[::-1] for step in streets)}))
                self.assertEqual(least_entering(net, about), least)
                self.assertEqual(turned_about(net, about), streets)

    def test_edges(self):
        self.assertEqual((turned_about(POINT, {}), turned_about(BARE, {}), least_entering(BARE, {})), ({}, {}, 0))
        self.assertEqual(least_entering(TWO, {("a", "b"): 2, ("b", "a"): 1}), 1)
        self.assertEqual(least_entering(TWO, {("a", "b"): 3}), 0)


class TestFolds(unittest.TestCase):
    def test_most_folds_by_turning(self):
        for net in TINY + tuple(net for net in small_nets()[::4] if len(net.places) > 1):
            most = max(min(count_entering(streets, lot) for lot in counting_lots(net)) for streets in turned_ways(net))
            self.assertTrue(same(most_folds(net), most), net.ties)

    def test_papers(self):
        for net in NETS:
            least = min((count_cut(net, lot) for lot in counting_lots(net)), default=None)
            self.assertTrue(same(most_folds(net), None if least is None else least // 2))
            for many in (1, 2, 3, (least or 2) // 2, (least or 0) // 2 + 1, 10 ** 11):
                if many:
                    paper = folds_paper(net, many)
                    self.assertEqual(paper[0], "streets" if least is None or least >= 2 * many else "lot")
                    self.assertTrue(is_right_folds_paper(net, many, paper), (net.ties, many, paper))
                    self.assertIs(is_folds_paper(net, many, paper), True)

    def test_many_nets_with_odd_places(self):
        for net in mixed_nets(250, 141):
            many = most_folds(net)
            if many:
                paper = folds_paper(net, many)
                self.assertTrue(is_right_folds_paper(net, many, paper), (net.ties, many, paper))

    def test_all_answers_are_taken(self):
        for net in TINY + (POINT,):
            for many in (1, 2, 3):
                values = [("streets", streets) for streets in list(turned_ways(net))[::2]]
                values += [("lot", lot) for lot in all_subsets(net.places)]
                for value in values:
                    self.assertIs(is_folds_paper(net, many, value), is_right_folds_paper(net, many, value), (many, value))

    def test_edges(self):
        self.assertIsNone(most_folds(POINT))
        for many in (1, 2, 60, 10 ** 11):
            self.assertEqual(folds_paper(POINT, many), ("streets", {}))
            self.assertIs(is_folds_paper(POINT, many, ("streets", {})), True)
            self.assertIs(is_folds_paper(POINT, many, ("lot", ("a",))), False)
        self.assertEqual([most_folds(net) for net in (BARE, APART, TWO, SEVEN, CROWD)], [0, 0, 1, 3, 10])
        self.assertEqual(folds_paper(CROWD, 10)[0], "streets")
        self.assertEqual(folds_paper(CROWD, 11)[0], "lot")
        self.assertEqual(folds_paper(Net(("a", "b")).joined("a", "b", 60), 30), ("streets", {("a", "b"): 30, ("b", "a"): 30}))

    def test_one_thing_changed(self):
        for net, many in ((PATH, 1), (RING, 1), (FULL, 1), (TWO, 1), (POINT, 2), (APART, 3)):
            for value in changed_values(folds_paper(net, many)):
                self.assertIs(is_folds_paper(net, many, value), is_right_folds_paper(net, many, value), value)


class TestEvenStreets(unittest.TestCase):
    def test_even_streets(self):
        evens = [net for net in small_nets() + mixed_nets(60, 142) if not net.odd]
        evens += [net.times(2) for net in mixed_nets(30, 143) if net.size <= 30] + [POINT, BARE, RING, SEVEN, CROWD]
        for net in evens:
            streets = even_streets(net)
            self.assertTrue(is_right_streets(net, streets), (net.ties, streets))
            self.assertEqual(list(streets), sorted(streets))
            self.assertEqual(coming_in(net, streets), {place: many // 2 for place, many in net.degrees.items()})
            for lot in counting_lots(net):
                self.assertEqual(2 * entering(net, streets, lot), count_cut(net, lot))

    def test_odd_places_are_refused(self):
        for net in NETS:
            odd = tuple(place for place in net.places if count_cut(net, (place,)) % 2)
            if odd:
                self.assertEqual(raised(even_streets, net), (Refused, odd))
        self.assertEqual(raised(even_streets, HUB), (Refused, ("a", "c")))


class TestRefusals(Refusals, unittest.TestCase):
    def told(self):
        wrong = [(value, (InvalidOperation, None)) for value in ODD_VALUES + (
            {("a", "b"): 2}, {("a", "b"): 1, ("b", "a"): True, ("c", "b"): 1}, list(TURN), {**TURN, ("a", "c"): 1},
            {("a", "b"): 2, ("c", "b"): 1, ("b", "c"): 0}, {("a", "b"): 2, ("b", "c"): HUGE}, PATH.times(2).ties)]
        return [("net", PATH, wrong_nets()), ("streets", TURN, wrong)]

    def test_places(self):
        unknown = [(value, (UnknownPlace, value)) for value in ODD_VALUES if value not in ("a", "b")]
        ends = [("one", "b", unknown), ("other", "a", unknown + [("b", (InvalidOperation, None))])]
        for call in (one_way_number, one_way_paper):
            self.check_refusals(call, self.told() + ends)
        for value in (None, one_way_paper(PATH, TURN, "b", "a")):
            self.check_refusals(lambda net, streets, one, other: is_one_way_paper(net, streets, one, other, value),
                                self.told() + ends)
        self.assertEqual(raised(one_way_number, POINT, {}, "a", "a"), (InvalidOperation, None))
        self.assertEqual(raised(one_way_number, POINT, {}, "a", "b"), (UnknownPlace, "b"))

    def test_streets(self):
        for call in (least_entering, turned_about):
            self.check_refusals(call, self.told())
        self.assertEqual(raised(least_entering, POINT, {}), (InvalidOperation, None))
        self.assertEqual(raised(least_entering, POINT, None), (InvalidOperation, None))
        self.assertEqual(raised(least_entering, None, {}), (InvalidNet, None))
        self.assertEqual(raised(entering, PATH, TURN, PATH.places), (InvalidLot, None))

    def test_many(self):
        wrong = [(value, (InvalidNumber, value)) for value in ODD_VALUES if type(value) is not int or value < 1]
        told = [("net", PATH, wrong_nets()), ("many", 1, wrong)]
        self.check_refusals(folds_paper, told)
        for value in (None, ("lot", ("c",))):
            self.check_refusals(lambda net, many: is_folds_paper(net, many, value), told)
        for call in (most_folds, even_streets):
            self.check_refusals(call, [("net", RING, wrong_nets())])
        self.assertTrue(same(raised(folds_paper, POINT, True)[1], True))

    def test_judges_take_every_value(self):
        for net, streets in ((PATH, TURN), (RING, ROUND), (TWO, {("b", "a"): 3}), (BARE, {})):
            self.check_judge(is_one_way_paper, net, streets, "a", "b")
        for net in (PATH, RING, TWO, BARE, POINT):
            for many in (1, 2):
                self.check_judge(is_folds_paper, net, many)


if __name__ == "__main__":
    unittest.main()
