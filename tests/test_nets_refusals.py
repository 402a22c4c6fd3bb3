"""Nets: what is refused, by which error, and which error comes first."""

import unittest

from holdsfast.base.nets import Net
from holdsfast.errors import InvalidLot, InvalidNet, InvalidNumber, InvalidOperation, UnknownPlace
from tests.helpers import APART, CROWD, FULL, HUB, HUGE, ODD_VALUES, PATH, POINT, SEVEN, TWO, Refusals, raised, same

PLACES = ("a", "b", "c", "d", "e", "f", "g")
NO_PLACES = [value for value in ODD_VALUES if not (
    isinstance(value, tuple) and value and all(type(item) is str for item in value) and value != ("a", "a"))] + [
    PLACES + ("h",), ("a", "b", "a"), ("a", ""), ("a", "B"), ("a", "abcdefghi"), ("a", 1), ("a", None), ("a", ("b",)),
    ("a", ["b"]), list(PLACES), {"a": 1, "b": 2}, "abc", ("a", Net(("b",)))]
NO_TIES = [value for value in ODD_VALUES if value not in (None, {}, {("a", "b"): 1})] + [
    {("b", "a"): 1}, {("a", "a"): 1}, {("a", "q"): 1}, {("a",): 1}, {("a", "b", "c"): 1}, {"ab": 1}, {"a": 1}, {5: 1},
    {True: 1}, {None: 1}, {(): 1}, {("a", 1): 1}, {("a", ("b",)): 1}, {("a", None): 1}, {("a", "b"): 0},
    {("a", "b"): -1}, {("a", "b"): True}, {("a", "b"): None}, {("a", "b"): "1"}, {("a", "b"): (1,)},
    {("a", "b"): [1]}, {("a", "b"): Net(("a",))}, {("a", "b"): 31}, {("a", "b"): HUGE}, {("a", "b"): -HUGE},
    {("a", "b"): 30, ("a", "c"): 1}, {("a", "b"): 1, ("b", "a"): 1}, {("a", "b"): 1, ("b", "c"): False},
    (("a", "b"), 1), [("a", "b")], [(("a", "b"), 1)], {(("a", "b"), ("a", "b")): 1},
]
NO_MANY = [True, False, None, 0, -1, -HUGE, "", "1", "a", (), (1,), [1], {1: 1}, PATH, InvalidNet()]


def unknown(net):
    values = [value for value in ODD_VALUES if not (isinstance(value, str) and value in net.places)]
    return [(value, (UnknownPlace, value)) for value in values]


def wrong_many():
    return [(value, (InvalidNumber, value)) for value in NO_MANY]


def refused(values, error):
    return [(value, (error, None)) for value in values]


def wrong_lots(net):
    """What is no lot of a net with the places a, b, c, or is empty."""
    more = [("a", "c", "b"), ("a", "a"), ("b", "a"), ("a", "q"), ("a", 1), ("a", None), ["a"], "a", "abc", {"a": 1},
            ("a", ("b",)), (("a",), "b"), ("a", True), net, (net,)]
    odd = [value for value in ODD_VALUES if not (
        isinstance(value, tuple) and value and list(value) in (["a"], ["b"], ["a", "b"]))]
    return refused(more + odd, InvalidLot)


class TestMakingRefuses(Refusals, unittest.TestCase):
    def test_constructor(self):
        self.check_refusals(Net, [
            ("places", ("a", "b", "c"), refused(NO_PLACES, InvalidNet)),
            ("ties", {("a", "b"): 1}, refused(NO_TIES, InvalidNet)),
        ])

    def test_ties_of_one_place(self):
        for ties in ({("a", "b"): 1}, {("a", "a"): 1}, 5, (), True):
            self.assertEqual(raised(Net, ("a",), ties), (InvalidNet, None))

    def test_full_and_ring(self):
        for made in (Net.full, Net.ring):
            told = [("places", ("a", "b", "c"), refused(NO_PLACES, InvalidNet)), ("many", 1, wrong_many())]
            self.check_refusals(made, told, named=("many",))
            self.assertEqual(raised(made, ("a", "a"), many=0), (InvalidNet, None))
            self.assertEqual(raised(made, PLACES, many=0), (InvalidNumber, 0))
            self.assertEqual(raised(made, ("a",), many=0), (InvalidNumber, 0))
            self.assertTrue(same(raised(made, ("a",), many=True)[1], True))
            for many in (31, HUGE):
                self.assertEqual(raised(made, ("a", "b"), many=many), (InvalidNet, None))
            self.assertEqual(raised(made, ("a", "b", "c"), many=11), (InvalidNet, None))
            self.assertEqual(raised(made, PLACES, many=5), (InvalidNet, None))
            with self.assertRaises(TypeError):
                made(("a", "b"), 2)
        self.assertEqual(raised(Net.full, PLACES, many=2), (InvalidNet, None))


class TestMethodsRefuse(Refusals, unittest.TestCase):
    def test_tied_and_near(self):
        self.check_refusals(PATH.tied, [("one", "a", unknown(PATH)),
                                        ("other", "b", unknown(PATH) + [("a", (InvalidOperation, None))])])
        self.check_refusals(PATH.near, [("place", "a", unknown(PATH))])
        self.assertEqual(raised(POINT.tied, "a", "a"), (InvalidOperation, None))
        self.assertEqual(raised(PATH.tied, "q", "q"), (UnknownPlace, "q"))

    def test_joined_and_untied(self):
        for method in (PATH.joined, PATH.untied):
            self.check_refusals(method, [("one", "a", unknown(PATH)),
                                         ("other", "b", unknown(PATH) + [("a", (InvalidOperation, None))]),
                                         ("many", 1, wrong_many())])

    def test_joined_too_much(self):
        for many in (58, HUGE):
            self.assertEqual(raised(PATH.joined, "a", "b", many), (InvalidNet, None))
        self.assertEqual(PATH.joined("a", "b", 57).size, 60)
        self.assertEqual(raised(CROWD.joined, "a", "b"), (InvalidNet, None))
        self.assertEqual(raised(CROWD.joined, "a", "b", 0), (InvalidNumber, 0))
        self.assertEqual(raised(CROWD.joined, "a", "a"), (InvalidOperation, None))

    def test_untied_too_much(self):
        self.assertEqual(raised(PATH.untied, "b", "a", 3), (InvalidNumber, 3))
        self.assertEqual(raised(PATH.untied, "a", "c"), (InvalidNumber, 1))
        self.assertEqual(raised(PATH.untied, "a", "b", HUGE), (InvalidNumber, HUGE))

    def test_with_place(self):
        right = ("q", "ab", "abcdefgh")
        wrong = [value for value in ODD_VALUES if not (isinstance(value, str) and value in right)]
        self.check_refusals(PATH.with_place, [("place", "q", refused(wrong + ["a", "b", "c"], InvalidNet))])
        self.assertEqual(raised(SEVEN.with_place, "h"), (InvalidNet, None))

    def test_without_place(self):
        self.check_refusals(PATH.without_place, [("place", "a", unknown(PATH))])
        self.check_refusals(POINT.without_place, [("place", "a", unknown(POINT))])
        self.assertEqual(raised(POINT.without_place, "a"), (InvalidNet, None))

    def test_within_and_shrunk(self):
        self.check_refusals(PATH.within, [("lot", ("a", "b", "c"), wrong_lots(PATH))])
        right = ("a", "b", "q", "ab", "abcdefgh")
        wrong = [value for value in ODD_VALUES if not (isinstance(value, str) and value in right)] + ["c"]
        self.check_refusals(PATH.shrunk, [("lot", ("a", "b"), wrong_lots(PATH)),
                                          ("place", "q", refused(wrong, InvalidNet))])
        self.assertEqual(raised(POINT.within, ()), (InvalidLot, None))
        self.assertEqual(raised(APART.shrunk, ("a", "b"), "c"), (InvalidNet, None))

    def test_renamed(self):
        wrong = list(ODD_VALUES) + [
            {"a": "x", "b": "y"}, {"a": "x", "b": "y", "c": "z", "d": "w"}, {"a": "x", "b": "y", "c": "x"},
            {"a": "x", "b": "y", "d": "z"}, {"a": "x", "b": "y", "c": "Z"}, {"a": "x", "b": "y", "c": None},
            {"a": "x", "b": "y", "c": ["z"]}, {"a": "x", "b": "y", "c": ("z",)}, {"a": "x", "b": "y", "c": PATH},
            {"a": "x", "b": "y", None: "z"}, {"a": "x", "b": "y", ("c",): "z"}, {"a": "x", "b": "y", 1: "z"},
            {"a": "x", "b": "y", "c": ""}, {"a": "x", "b": "y", "c": True}, {"a": [], "b": [], "c": []},
            ("x", "y", "z"), [("a", "x"), ("b", "y"), ("c", "z")],
        ]
        right = {"a": "x", "b": "y", "c": "z"}
        self.check_refusals(PATH.renamed, [("names", right, refused(wrong, InvalidOperation))])

    def test_times(self):
        self.check_refusals(PATH.times, [("many", 1, wrong_many())])
        for many in (21, HUGE):
            self.assertEqual(raised(TWO.times, many), (InvalidNet, None))
        self.assertEqual(raised(CROWD.times, 2), (InvalidNet, None))
        self.assertEqual(raised(CROWD.times, 0), (InvalidNumber, 0))

    def test_plus(self):
        others = [Net(("a", "b")), Net(("a", "b", "c", "d")), Net(("a", "b", "d")), HUB, POINT]
        self.check_refusals(PATH.plus, [("other", PATH, refused(list(ODD_VALUES) + others, InvalidNet))])
        self.assertEqual(raised(CROWD.plus, Net.ring(CROWD.places)), (InvalidNet, None))
        self.assertEqual(raised(Net(("a", "b"), {("a", "b"): 30}).times(2).plus, Net(("a", "b"), {("a", "b"): 1})),
                         (InvalidNet, None))
        self.assertEqual(TWO.times(19).plus(TWO).size, 60)

    def test_a_refused_call_has_no_effect(self):
        net = Net(("a", "b", "c"), {("a", "b"): 2, ("b", "c"): 1})
        raised(net.joined, "a", "b", HUGE)
        raised(net.untied, "a", "c")
        raised(net.plus, FULL)
        raised(net.without_place, "q")
        self.assertEqual(net, PATH)


if __name__ == "__main__":
    unittest.main()
