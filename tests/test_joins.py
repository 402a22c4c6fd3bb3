"""Joins and odd rows, beside a second way of counting over all pairings and all joins."""

import itertools
import unittest

from holdsfast.base.nets import Net
from holdsfast.errors import InvalidNet, InvalidOperation, Refused
from holdsfast.odd.joins import (
    both_joins, is_join, is_join_paper, is_odd_row, join_number, join_paper, least_join,
)
from tests.helpers import (
    APART, CROWD, EXAMPLES, FULL, HUB, HUGE, ODD_VALUES, PATH, POINT, RING, SEVEN, TWO, Refusals, all_subsets,
    changed_values, count_numbers, count_pieces, is_plain_lot, is_two, mixed_nets, raised, same, small_nets, tie_list,
    wrong_nets,
)

NETS = EXAMPLES + tuple(small_nets()[::3]) + tuple(mixed_nets(12, 70))
TINY = (POINT, TWO, PATH, RING, HUB, Net(("a", "b")), Net(("a", "b", "c"), {("b", "c"): 2}),
        Net(tuple("abcd"), {("a", "b"): 1, ("c", "d"): 2}))


def is_odd_in(lot, chosen):
    return len(set(lot) & set(chosen)) % 2 == 1


def even_choices(net):
    """All chosen places of which each piece has an even number."""
    pieces = count_pieces(net)
    return [lot for lot in all_subsets(net.places) if not any(is_odd_in(piece, lot) for piece in pieces)]


def distances(net):
    """Find how far all places are from one another along ties, by longer and longer steps."""
    far = {(one, other): 0 if one == other else 99 for one in net.places for other in net.places}
    for one, other in net.ties:
        far[one, other] = far[other, one] = 1
    for mid, one, other in itertools.product(net.places, repeat=3):
        far[one, other] = min(far[one, other], far[one, mid] + far[mid, other])
    return far


def all_pairings(chosen):
    if not chosen:
        return [()]
    return [((chosen[0], other),) + row for other in chosen[1:]
            for row in all_pairings(tuple(place for place in chosen[1:] if place != other))]


def count_join(far, chosen):
    """A least join leads from each chosen place to the one that it is paired with."""
    return min(sum(far[pair] for pair in pairing) for pairing in all_pairings(chosen))


def is_right_join(net, chosen, value):
    if type(value) is not dict or not count_numbers(value):
        return False
    if any(value[pair] > tie_list(net).count(pair) for pair in value):
        return False
    ends = [place for pair, many in value.items() for place in pair * many]
    return [place for place in net.places if ends.count(place) % 2] == list(chosen)


def is_right_row(net, chosen, value):
    if type(value) is not tuple or not all(is_plain_lot(net, lot) and is_odd_in(lot, chosen) for lot in value):
        return False
    if any(value[at] > value[at + 1] for at in range(len(value) - 1)):
        return False
    return all(sum(1 for lot in value if len(set(tie) & set(lot)) == 1) <= 2 for tie in tie_list(net))


def is_right_paper(net, chosen, value):
    if not is_two(value) or not is_right_join(net, chosen, value[0]) or not is_right_row(net, chosen, value[1]):
        return False
    return len(value[1]) == 2 * sum(value[0].values())


def choices_of(net):
    """Some of the choices of a net with many places, all of those of a small one."""
    rows = even_choices(net)
    return rows if len(net.places) < 5 else rows[::7] + rows[-1:]


class TestJoins(unittest.TestCase):
    def test_least_joins(self):
        for net in NETS:
            far = distances(net)
            for chosen in choices_of(net):
                least = count_join(far, chosen)
                self.assertTrue(same(join_number(net, chosen), least), (net.ties, chosen))
                join = least_join(net, chosen)
                self.assertTrue(is_right_join(net, chosen, join), (net.ties, chosen, join))
                self.assertEqual(list(join), sorted(join))
                self.assertTrue(same(list(join.values()), [1] * least))
                self.assertIs(is_join(net, chosen, join), True)

    def test_all_joins_of_tiny_nets(self):
        for net in TINY:
            pairs = list(net.ties)
            rows = [{pair: many for pair, many in zip(pairs, counts) if many}
                    for counts in itertools.product(*[range(net.ties[pair] + 2) for pair in pairs])]
            for chosen in even_choices(net):
                right = [row for row in rows if is_right_join(net, chosen, row)]
                self.assertEqual(join_number(net, chosen), min(sum(row.values()) for row in right))
                for row in rows:
                    self.assertIs(is_join(net, chosen, row), row in right, (net.ties, chosen, row))

    def test_edges(self):
        for net in EXAMPLES:
            self.assertEqual((join_number(net, ()), least_join(net, ()), join_paper(net, ())), (0, {}, ({}, ())))
        self.assertEqual(least_join(TWO, ("a", "b")), {("a", "b"): 1})
        self.assertIn(join_paper(TWO, ("a", "b")), [
            ({("a", "b"): 1}, row) for row in ((("a",), ("a",)), (("a",), ("b",)), (("b",), ("b",)))])
        self.assertEqual(join_number(SEVEN, SEVEN.places[1:]), 3)
        self.assertEqual(join_number(CROWD, CROWD.places), 3)
        self.assertEqual(join_number(Net.ring(SEVEN.places), ("a", "d")), 3)
        self.assertEqual(least_join(APART, ("a", "b", "c", "e")), {("a", "b"): 1, ("c", "e"): 1})

    def test_joins_that_are_not_least(self):
        self.assertIs(is_join(PATH, (), {("a", "b"): 2}), True)
        self.assertIs(is_join(TWO, ("a", "b"), {("a", "b"): 3}), True)
        self.assertIs(is_join(TWO, ("a", "b"), {("a", "b"): 2}), False)
        self.assertIs(is_join(TWO, (), {("a", "b"): 4}), False)
        self.assertIs(is_join(RING, (), {("a", "b"): 1, ("a", "d"): 1, ("b", "c"): 1, ("c", "d"): 1}), True)
        self.assertIs(is_join(RING, ("a", "b"), {("a", "d"): 1, ("c", "d"): 1, ("b", "c"): 1}), True)

    def test_one_thing_changed(self):
        for net, chosen in ((PATH, ("b", "c")), (RING, ("a", "c")), (TWO, ("a", "b")), (FULL, FULL.places), (PATH, ())):
            join, row = join_paper(net, chosen)
            for value in changed_values(join):
                self.assertIs(is_join(net, chosen, value), is_right_join(net, chosen, value), value)
            for value in changed_values(row):
                self.assertIs(is_odd_row(net, chosen, value), is_right_row(net, chosen, value), value)
            for value in changed_values((join, row)):
                self.assertIs(is_join_paper(net, chosen, value), is_right_paper(net, chosen, value), value)
        self.assertIs(is_join(PATH, ("b", "c"), {("b", "c"): True}), False)
        self.assertIs(is_join(PATH, ("b", "c"), {("c", "b"): 1}), False)
        self.assertIs(is_join(PATH, ("a", "c"), {("a", "c"): 1}), False)
        self.assertIs(is_join(RING, RING.places, {("a", "c"): 1, ("b", "d"): 1}), False)


class TestOddRows(unittest.TestCase):
    def test_all_small_rows(self):
        for net in TINY:
            lots = all_subsets(net.places)
            for chosen in even_choices(net):
                right = 0
                for size in range(4 if len(net.places) < 4 else 3):
                    for row in itertools.product(lots, repeat=size):
                        expected = is_right_row(net, chosen, row)
                        self.assertIs(is_odd_row(net, chosen, row), expected, (net.ties, chosen, row))
                        right += expected
                self.assertGreater(right, 0)

    def test_equal_lots_stand_as_often(self):
        self.assertIs(is_odd_row(TWO, ("a", "b"), (("a",), ("a",))), True)
        self.assertIs(is_odd_row(TWO, ("a", "b"), (("b",), ("b",))), True)
        self.assertIs(is_odd_row(TWO, ("a", "b"), (("a",), ("b",))), True)
        self.assertIs(is_odd_row(TWO, ("a", "b"), (("b",), ("a",))), False)
        self.assertIs(is_odd_row(TWO, ("a", "b"), (("a",), ("a",), ("a",))), False)
        self.assertIs(is_odd_row(RING, ("a", "c"), (("a",), ("c",), ("a",), ("c",))), False)
        self.assertIs(is_odd_row(RING, ("a", "c"), (("a",), ("a",), ("a", "b", "d"), ("a", "b", "d"))), True)
        self.assertIs(is_odd_row(RING, ("a", "c"), (("a", "b"), ("a", "b", "d"))), True)
        self.assertIs(is_odd_row(RING, (), ()), True)

    def test_papers(self):
        for net in NETS:
            far = distances(net)
            for chosen in choices_of(net):
                join, row = join_paper(net, chosen)
                self.assertEqual(sum(join.values()), count_join(far, chosen))
                self.assertTrue(is_right_paper(net, chosen, (join, row)), (net.ties, chosen, join, row))
                self.assertIs(is_join_paper(net, chosen, (join, row)), True)
                self.assertIs(is_odd_row(net, chosen, row), True)
                if row:
                    self.assertIs(is_join_paper(net, chosen, (join, row[1:])), False)

    def test_all_choices_of_seven_places(self):
        for net in mixed_nets(60, 71):
            if len(net.places) == 7:
                far = distances(net)
                for chosen in even_choices(net):
                    paper = join_paper(net, chosen)
                    self.assertTrue(is_right_paper(net, chosen, paper), (net.ties, chosen, paper))
                    self.assertEqual(sum(paper[0].values()), count_join(far, chosen))


class TestBothJoins(Refusals, unittest.TestCase):
    def test_both_joins(self):
        for net in TINY:
            pairs = list(net.ties)
            joins = [{pair: many for pair, many in zip(pairs, counts) if many}
                     for counts in itertools.product(*[range(net.ties[pair] + 1) for pair in pairs])]
            for join, second in itertools.product(joins[::2], joins):
                chosen = tuple(tuple(place for place in net.places if sum(row[p] for p in row if place in p) % 2)
                               for row in (join, second))
                found = both_joins(net, chosen, join, second)
                odd = {pair: 1 for pair in pairs if (join.get(pair, 0) + second.get(pair, 0)) % 2}
                self.assertTrue(same(found, odd))
                alone = tuple(sorted(set(chosen[0]) ^ set(chosen[1])))
                self.assertIs(is_join(net, alone, found), True)

    def test_what_is_refused(self):
        join, second = {("a", "b"): 1, ("b", "c"): 1}, {("b", "c"): 1}
        chosen = (("a", "c"), ("b", "c"))
        no_choices = list(ODD_VALUES) + [
            chosen[:1], chosen + ((),), list(chosen), (["a", "c"], ("b", "c")), (("c", "a"), ("b", "c")),
            (("a", "q"), ("b", "c")), (("a", "c"), None), (("a", "a"), ("b", "c")), chosen[::-1], (("a",), ("b",))]
        no_choices = [(value, (InvalidOperation, None)) for value in no_choices]
        no_joins = [(value, (InvalidOperation, None)) for value in ODD_VALUES + (
            {("a", "b"): 2}, {("a", "b"): True, ("b", "c"): 1}, {("b", "a"): 1, ("b", "c"): 1}, {("a", "b"): HUGE},
            {("a", "b"): 1, ("b", "c"): 1, ("c", "d"): 0}, [("a", "b"), ("b", "c")])]
        self.assertIsNone(raised(both_joins, RING, chosen, join, second))
        self.check_refusals(both_joins, [
            ("net", RING, wrong_nets()), ("chosen", chosen, no_choices), ("join", join, no_joins),
            ("second", second, no_joins + [(join, (InvalidOperation, None))])])

    def test_nothing_is_refused_for_pieces(self):
        self.assertEqual(raised(both_joins, APART, (("a",), ()), {}, {}), (InvalidOperation, None))
        self.assertEqual(raised(both_joins, APART, (("a", "c"), ()), {}, {}), (InvalidOperation, None))
        self.assertEqual(both_joins(APART, ((), ("a", "b")), {("a", "b"): 2}, {("a", "b"): 1}), {("a", "b"): 1})
        self.assertEqual(both_joins(POINT, ((), ()), {}, {}), {})


class TestRefusals(Refusals, unittest.TestCase):
    def told(self, net, chosen, piece):
        wrong = [value for value in ODD_VALUES if not is_plain_lot(net, value)]
        wrong += [("c", "a"), ("a", "q"), ["a", "c"], ("a", None), ("a", ("c",)), {"a": 1}]
        wrong = [(value, (InvalidOperation, None)) for value in wrong]
        odd = [lot for lot in all_subsets(net.places) if any(is_odd_in(part, lot) for part in count_pieces(net))]
        wrong += [(lot, (Refused, [part for part in count_pieces(net) if is_odd_in(part, lot)][0])) for lot in odd]
        self.assertIn(piece, [error[1] for _, error in wrong])
        return [("net", net, wrong_nets()), ("chosen", chosen, wrong)]

    def test_what_is_refused(self):
        for net, chosen, piece in ((RING, ("a", "c"), RING.places), (APART, ("c", "e"), ("d",)), (POINT, (), ("a",)),
                                   (Net(("a", "b")), (), ("b",)), (APART, (), ("a", "b"))):
            told = self.told(net, chosen, piece)
            for call in (join_number, least_join, join_paper):
                self.check_refusals(call, told)
            for judge in (is_join, is_odd_row, is_join_paper):
                for value in ({}, (), ({}, ()), None, [1]):
                    self.check_refusals(lambda net, chosen: judge(net, chosen, value), told)

    def test_first_odd_piece(self):
        self.assertEqual(raised(join_number, APART, ("a", "c", "d")), (Refused, ("a", "b")))
        self.assertEqual(raised(least_join, APART, ("a", "b", "c", "d")), (Refused, ("c", "e")))
        self.assertEqual(raised(join_paper, APART, ("d",)), (Refused, ("d",)))
        self.assertEqual(raised(is_join, APART, ("d",), None), (Refused, ("d",)))
        self.assertEqual(raised(is_odd_row, None, None, None), (InvalidNet, None))

    def test_judges_take_every_value(self):
        for net, chosen in ((RING, ("a", "c")), (PATH, ("b", "c")), (APART, ()), (HUB, ("a", "b", "c", "z")), (POINT, ())):
            self.check_judge(is_join, net, chosen, right=[value for value in ODD_VALUES if is_right_join(net, chosen, value)])
            self.check_judge(is_odd_row, net, chosen,
                             right=[value for value in ODD_VALUES if is_right_row(net, chosen, value)])
            self.check_judge(is_join_paper, net, chosen, right=[({}, ())] if not chosen else [])


if __name__ == "__main__":
    unittest.main()
