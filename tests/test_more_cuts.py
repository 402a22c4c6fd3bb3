"""New ties for the least cut, beside a second way of counting over all new ties of some number, and over all lots."""

import functools
import itertools
import random
import unittest

from holdsfast.base.nets import Net
from holdsfast.errors import InvalidNet, InvalidOperation
from holdsfast.least.cuts import leaves
from holdsfast.more.cuts import (
    fewest_raising, is_raising, is_raising_paper, raising, raising_paper, with_ties,
)
from tests.helpers import (
    APART, CROWD, EXAMPLES, FULL, HUB, ODD_VALUES, PAIRED, PATH, POINT, RING, SEVEN, TANGLED, TWO, WOVEN, Refusals,
    all_subsets, changed_values, count_cut, counting_lots, find_numbers, is_plain_lot, is_two, mixed_nets, raised, same,
    small_nets, tie_list, wrong_nets,
)
from tests.test_past import from_ties

BARE = Net(("a", "b", "c"))
STAR = Net(tuple("abcdefg"), {("a", other): 1 for other in "bcdefg"})
LINE = Net(tuple("abcdefg"), {pair: 1 for pair in zip("abcdef", "bcdefg")})
RINGS = tuple(Net.ring(tuple("abcdefg"[:size]), many=many) for size in (3, 5, 6, 7) for many in (1, 2))


def is_held(net):
    return len(net.places) > 1 and net.is_joined


NETS = [net for net in EXAMPLES + RINGS + tuple(small_nets()) + tuple(mixed_nets(120, 180)) + (STAR, LINE) if is_held(net)]


def all_new(net, many):
    return itertools.combinations_with_replacement(itertools.combinations(net.places, 2), many)


def count_with(net, ties, lot):
    """Count the ties and new ties that leave a lot one by one."""
    return count_cut(net, lot) + count_new(ties, lot)


def count_new(ties, lot):
    return sum(1 for one, other in ties if (one in lot) != (other in lot))


@functools.lru_cache(maxsize=None)
def cuts_of(places, ties):
    net = from_ties(places, ties)
    return {lot: count_cut(net, lot) for lot in counting_lots(net)}


def least_of(net):
    return min(cuts_of(net.places, tuple(tie_list(net))).values())


def do_raise(net, ties):
    cuts = cuts_of(net.places, tuple(tie_list(net)))
    least = min(cuts.values())
    return all(cuts[lot] + count_new(ties, lot) > least for lot in cuts)


def are_new(net, value):
    """Judge new ties by a look at the types of all that is in them."""
    if type(value) is not tuple or not all(is_plain_lot(net, pair) and len(pair) == 2 for pair in value):
        return False
    return list(value) == sorted(value)


def is_right_paper(net, value):
    if not is_two(value) or not are_new(net, value[0]) or not do_raise(net, value[0]):
        return False
    bars = value[1]
    if type(bars) is not tuple or not all(is_plain_lot(net, lot) and lot in counting_lots(net) for lot in bars):
        return False
    if list(bars) != sorted(bars) or len(set(sum(bars, ()))) < len(sum(bars, ())):
        return False
    if any(count_cut(net, lot) != least_of(net) for lot in bars):
        return False
    return len(value[0]) == (len(bars) + 1) // 2


class TestFewest(unittest.TestCase):
    def test_by_all_new_ties(self):
        for net in NETS:
            if len(net.places) < 6:
                few = fewest_raising(net)
                self.assertIs(type(few), int)
                ways = [ties for ties in all_new(net, few) if do_raise(net, ties)]
                self.assertIn(raising(net), ways, net.ties)
                self.assertFalse(any(do_raise(net, ties) for ties in all_new(net, few - 1)), net.ties)

    def test_other_nets(self):
        for net in NETS + [net.times(2) for net in NETS[::9] if net.size <= 30]:
            ties = raising(net)
            self.assertTrue(are_new(net, ties))
            self.assertTrue(do_raise(net, ties), (net.ties, ties))
            self.assertEqual(len(ties), fewest_raising(net))
            bars = [lot for lot in counting_lots(net) if count_cut(net, lot) == least_of(net)]
            bars = [lot for lot in bars if not any(set(other) < set(lot) for other in bars)]
            self.assertEqual(len(ties), (len(bars) + 1) // 2)
            paper = raising_paper(net)
            self.assertTrue(is_right_paper(net, paper), (net.ties, paper))
            self.assertIs(is_raising_paper(net, paper), True)

    def test_edges(self):
        nets = (TWO, RING, FULL, HUB, PATH, SEVEN, CROWD, STAR, LINE, PAIRED, WOVEN, TANGLED)
        self.assertEqual([fewest_raising(net) for net in nets], [1, 2, 2, 1, 1, 4, 3, 3, 1, 3, 1, 1])
        self.assertEqual(raising(TWO), (("a", "b"),))
        self.assertEqual(raising(Net(("a", "b")).joined("a", "b", 60)), (("a", "b"),))
        self.assertEqual(raising(LINE), (("a", "g"),))
        self.assertEqual(raising(PATH.renamed({"a": "c", "b": "a", "c": "b"})), (("a", "b"),))


class TestJudges(unittest.TestCase):
    def test_all_new_ties(self):
        for net in (RING, FULL, HUB, PATH, TWO, Net.ring(tuple("abcde"))):
            for many in range(4):
                for ties in all_new(net, many):
                    self.assertIs(is_raising(net, ties), do_raise(net, ties), (net.ties, ties))
                    if many > 1 and len(set(ties)) > 1:
                        self.assertIs(is_raising(net, ties[::-1]), False)

    def test_further_ones_and_other_names(self):
        numbers = random.Random(181)
        for net in NETS[::4]:
            ties = raising(net)
            more = tuple(sorted(ties + tuple(numbers.choices(list(itertools.combinations(net.places, 2)), k=5))))
            self.assertIs(is_raising(net, more), True)
            names = dict(zip(net.places, numbers.sample("stuvwxyz", len(net.places))))
            other = tuple(sorted(tuple(sorted((names[one], names[two]))) for one, two in ties))
            self.assertIs(is_raising(net.renamed(names), other), True)
            self.assertEqual(fewest_raising(net.renamed(names)), len(ties))
            if net.size + len(ties) <= 60:
                made = net
                for one, two in ties:
                    made = made.joined(one, two)
                before, behind = find_numbers(net), find_numbers(made)
                least = least_of(net)
                self.assertTrue(all(behind[pair] > least for pair in before if before[pair] == least))

    def test_any_number_of_them(self):
        self.assertIs(is_raising(RING, (("a", "c"),) * 20 + (("b", "d"),) * 10), True)
        self.assertIs(is_raising(RING, (("a", "c"),) * 40 + (("b", "d"),) * 40), True)
        self.assertIs(is_raising(RING, (("a", "c"),) * 80), False)
        self.assertIs(is_raising(PATH, (("b", "c"), ("b", "c"))), True)
        self.assertIs(is_raising(PATH, ()), False)

    def test_papers_with_any_least_lots(self):
        for net in (RING, PATH, FULL, HUB, LINE.within(tuple("abcde"))):
            bars = [lot for lot in all_subsets(net.places)[1:-1] if len(lot) < 3]
            rows = [row for many in range(4) for row in itertools.combinations(sorted(bars), many)]
            for ties in (raising(net), tuple(sorted(raising(net) + (("a", "b"),))), ()):
                for row in rows:
                    right = is_right_paper(net, (ties, row))
                    self.assertIs(is_raising_paper(net, (ties, row)), right, (net.ties, ties, row))
        self.assertIs(is_raising_paper(LINE, ((("a", "g"),), (("a", "b", "c"), ("d", "e", "f", "g")))), True)
        self.assertIs(is_raising_paper(LINE, ((("a", "g"),), (("a",), ("a", "b")))), False)
        self.assertIs(is_raising_paper(LINE, ((("a", "g"),), (("a",),))), True)
        self.assertIs(is_raising_paper(LINE, ((("a", "g"), ("b", "c")), (("a",), ("g",)))), False)

    def test_one_thing_changed(self):
        for net in (RING, PATH, TWO, HUB, FULL):
            for value in changed_values(raising_paper(net)):
                self.assertIs(is_raising_paper(net, value), is_right_paper(net, value), value)
            for value in changed_values(raising(net)):
                self.assertIs(is_raising(net, value), are_new(net, value) and do_raise(net, value), value)


class TestWithTies(unittest.TestCase):
    def test_by_counting(self):
        numbers = random.Random(182)
        for net in NETS[::3] + [CROWD]:
            pairs = list(itertools.combinations(net.places, 2))
            for many in (0, 1, 2, 7, 30):
                ties = tuple(sorted(numbers.choices(pairs, k=many)))
                expected = {lot: count_with(net, ties, lot) for lot in sorted(counting_lots(net))}
                self.assertTrue(same(with_ties(net, ties), expected))

    def test_edges(self):
        self.assertEqual(with_ties(TWO, ()), {("a",): 3, ("b",): 3})
        self.assertEqual(with_ties(TWO, (("a", "b"),) * 30), {("a",): 33, ("b",): 33})
        self.assertEqual(with_ties(CROWD, (("a", "b"),) * 30)[("a",)], 50)


class TestRefusals(Refusals, unittest.TestCase):
    def test_nets(self):
        told = [("net", PATH, wrong_nets() + [(net, (InvalidOperation, None)) for net in (POINT, APART, BARE)])]
        for call in (fewest_raising, raising, raising_paper):
            self.check_refusals(call, told)
        for judge, value in ((is_raising, (("b", "c"),)), (is_raising, None), (is_raising_paper, raising_paper(PATH)),
                             (is_raising_paper, None)):
            self.check_refusals(lambda net: judge(net, value), told)

    def test_ties(self):
        wrong = [(value, (InvalidOperation, None)) for value in ODD_VALUES + (
            (("b", "a"),), (("b", "c"), ("a", "b")), [("a", "b")], (["a", "b"],), (("a", "b", "c"),), (("a", "q"),),
            (("a", "a"),), (("a", "b"), None), (("a", "b"),) * 31) if not are_new(PATH, value) or len(value) > 30]
        self.check_refusals(with_ties, [("net", PATH, wrong_nets()), ("ties", (("a", "b"),), wrong)])
        for net in (POINT, APART, BARE):
            self.assertEqual(raised(with_ties, net, ()), (InvalidOperation, None))
        self.assertEqual(raised(with_ties, None, None), (InvalidNet, None))
        self.assertIsNone(raised(with_ties, PATH, (("a", "b"),) * 30))

    def test_judges_take_every_value(self):
        for net in (PATH, RING, TWO, HUB):
            right = [value for value in ODD_VALUES if are_new(net, value) and do_raise(net, value)]
            self.check_judge(is_raising, net, right=right)
            self.check_judge(is_raising_paper, net)
        self.assertIs(is_raising(TWO, (("a", "b"),)), True)
        self.assertEqual(leaves(TWO), (("a",), ("b",)))


if __name__ == "__main__":
    unittest.main()
