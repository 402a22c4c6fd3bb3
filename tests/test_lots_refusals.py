"""Lots and partings: what is refused, by which error, and which error comes first."""

import unittest

from holdsfast.base.lots import (
    across, cut, cut_table, do_cross, inside, is_finer, is_lot, is_parting, lots, merged, met, parted_by, partings,
    rest,
)
from holdsfast.errors import InvalidLot, InvalidNet, InvalidOperation, InvalidParting
from tests.helpers import HUGE, ODD_VALUES, PATH, POINT, TWO, Refusals, raised, wrong_nets

# All of these are judged beside PATH, with the places a, b, c.
LOTS = [("a",), ("b",), ("a", "b")]
PARTINGS = [(("a",), ("b",), ("c",)), (("a", "b"), ("c",))]
FORESTS = [(), (("a", "b"),)]
NO_LOTS = [value for value in ODD_VALUES if value not in LOTS] + [
    ("a", "b", "c"), ("a", "q"), ("b", "a"), ("a", "a"), ["a"], ["a", "b"], "a", "abc", {"a": 1}, ("a", 1),
    ("a", None), ("a", True), ("a", ("b",)), ("a", ["b"]), PATH, (PATH,), ("a", PATH), (True,), ("A",), ("a ",),
    ("", "a"), (HUGE,)]
NO_PARTINGS = [value for value in ODD_VALUES] + [
    (("a",), ("b",)), (("b",), ("a",), ("c",)), (("a", "b"), ("b", "c")), (("a",), ("a",), ("b", "c")),
    (("a", "b", "c"), ()), ((), ("a", "b", "c")), (("b", "a"), ("c",)), [("a",), ("b",), ("c",)],
    (["a"], ["b"], ["c"]), ("a", "b", "c"), (("a",), ("b",), "c"), (("a",), ("b",), ("c",), ("q",)),
    (("a",), ("b",), (1,)), (("a",), ("b",), None), (("a", "b", "c"), ("a", "b", "c")), ((("a",),), ("b",), ("c",)),
    {("a", "b", "c"): 1}, (PATH,), (("a", "b"), (PATH,))]
NO_FORESTS = [value for value in ODD_VALUES if value not in FORESTS] + [
    (("a", "c"),), (("b", "a"),), (("b", "c"), ("a", "b")), (("a", "b"), ("a", "b")), [("a", "b")], (["a", "b"],),
    ("a", "b"), (("a", "b"), None), (("a", "b"), ("b", 1)), (("a", "q"),), (("a", "b", "c"),), (("a", "b"), ("c",)),
    {("a", "b"): 1}, (PATH,), (("a", "b"), ("a", "c")), (((("a",)), "b"),)]


def refused(values, error):
    return [(value, (error, None)) for value in values]


WRONG_LOTS = refused(NO_LOTS, InvalidLot)
WRONG_PARTINGS = refused(NO_PARTINGS, InvalidParting)


class TestRefusals(Refusals, unittest.TestCase):
    def test_net_alone(self):
        for call in (lots, cut_table, lambda net: list(partings(net))):
            self.check_refusals(call, [("net", PATH, wrong_nets())])

    def test_judges(self):
        for judge in (is_lot, is_parting):
            for wrong, error in wrong_nets():
                for value in (("a",), None):
                    self.assertEqual(raised(judge, wrong, value), error)
        self.check_judge(is_lot, PATH, right=LOTS)
        self.check_judge(is_parting, PATH)
        self.check_judge(is_lot, POINT)
        self.check_judge(is_parting, POINT, right=[(("a",),)])
        self.check_judge(is_lot, TWO, right=[("a",), ("b",)])
        self.check_judge(is_parting, TWO, right=[(("a",), ("b",)), (("a", "b"),)])
        for value in NO_LOTS:
            self.assertIs(is_lot(PATH, value), False)
        for value in NO_PARTINGS:
            self.assertIs(is_parting(PATH, value), False)

    def test_lots(self):
        for call in (cut, rest):
            self.check_refusals(call, [("net", PATH, wrong_nets()), ("lot", ("a",), WRONG_LOTS)])
        let = [(), ("a", "b", "c")]
        wrong = refused([value for value in NO_LOTS if value not in let], InvalidLot)
        self.check_refusals(inside, [("net", PATH, wrong_nets()), ("lot", ("a",), wrong)])
        self.check_refusals(do_cross, [("net", PATH, wrong_nets()), ("one", ("a",), WRONG_LOTS),
                                       ("other", ("a",), WRONG_LOTS)])

    def test_one_place(self):
        self.assertEqual((lots(POINT), cut_table(POINT)), ((), {}))
        for call in (cut, rest):
            for lot in ((), ("a",)):
                self.assertEqual(raised(call, POINT, lot), (InvalidLot, None))
        self.assertEqual((inside(POINT, ()), inside(POINT, ("a",))), (0, 0))
        self.assertEqual((across(POINT, (("a",),)), parted_by(POINT, ())), (0, (("a",),)))
        self.assertEqual(raised(parted_by, POINT, (("a", "a"),)), (InvalidOperation, None))

    def test_partings(self):
        right = (("a",), ("b",), ("c",))
        self.check_refusals(across, [("net", PATH, wrong_nets()), ("parting", right, WRONG_PARTINGS)])
        for call in (is_finer, met, merged):
            self.check_refusals(call, [("net", PATH, wrong_nets()), ("parting", right, WRONG_PARTINGS),
                                       ("other", right, WRONG_PARTINGS)])

    def test_forests(self):
        self.check_refusals(parted_by, [("net", PATH, wrong_nets()),
                                        ("forest", (("a", "b"),), refused(NO_FORESTS, InvalidOperation))])
        circle = PATH.joined("a", "c")
        self.assertEqual(raised(parted_by, circle, (("a", "b"), ("a", "c"), ("b", "c"))), (InvalidOperation, None))
        self.assertEqual(parted_by(circle, (("a", "b"), ("a", "c"))), (("a", "b", "c"),))

    def test_a_generator_raises_at_its_first_element(self):
        for wrong, error in wrong_nets():
            rows = partings(wrong)
            self.assertEqual(raised(next, rows), (InvalidNet, None))


if __name__ == "__main__":
    unittest.main()
