"""What several tests use: nets, wrong values, and a second way of counting."""

import itertools
import random

from holdsfast.base.nets import Net
from holdsfast.errors import InvalidNet

RING = Net(("a", "b", "c", "d"), {("a", "b"): 1, ("a", "d"): 1, ("b", "c"): 1, ("c", "d"): 1})
FULL = Net(
    ("a", "b", "c", "d"),
    {("a", "b"): 1, ("a", "c"): 1, ("a", "d"): 1, ("b", "c"): 1, ("b", "d"): 1, ("c", "d"): 1},
)
HUB = Net(("a", "b", "c", "z"), {("a", "z"): 2, ("b", "z"): 1, ("c", "z"): 1, ("a", "b"): 1})
PATH = Net(("a", "b", "c"), {("a", "b"): 2, ("b", "c"): 1})
POINT = Net(("a",))
TWO = Net(("a", "b"), {("a", "b"): 3})
APART = Net(("a", "b", "c", "d", "e"), {("a", "b"): 2, ("c", "e"): 1})
SEVEN = Net.full(("a", "b", "c", "d", "e", "f", "g"))
CROWD = Net.full(("a", "b", "c", "d", "e", "f"), many=2).times(2)
# Two rings of least cuts meet in a node that has no place.
PAIRED = Net(tuple("abcdef"), {("a", "b"): 2, ("b", "c"): 2, ("d", "e"): 2, ("e", "f"): 2, ("a", "d"): 1, ("a", "f"): 1,
                               ("c", "d"): 1, ("c", "f"): 1})
# Here steps of earlier ways have to be taken back before all ways from a to g are found.
WOVEN = Net(tuple("abcdefg"), {
    ("a", "b"): 2, ("a", "c"): 1, ("a", "e"): 1, ("a", "f"): 3, ("b", "c"): 1, ("b", "e"): 1, ("b", "f"): 3,
    ("b", "g"): 3, ("c", "d"): 1, ("c", "e"): 1, ("d", "e"): 1, ("d", "g"): 3, ("e", "g"): 3})
TANGLED = Net(tuple("abcdefg"), {
    ("a", "d"): 3, ("a", "e"): 3, ("a", "f"): 1, ("a", "g"): 3, ("b", "c"): 1, ("b", "d"): 3, ("b", "e"): 1,
    ("b", "g"): 2, ("c", "d"): 1, ("c", "e"): 2, ("c", "g"): 1, ("d", "f"): 2, ("e", "g"): 1, ("f", "g"): 3})
EXAMPLES = (RING, FULL, HUB, PATH, POINT, TWO, APART, SEVEN, CROWD, PAIRED, WOVEN, TANGLED)

HUGE = 10 ** 39 + 7
DEEP = (((((((("a",),),),),),),),)

# Values of every kind that can be passed where another kind is asked for.
ODD_VALUES = (
    True, False, None, 0, 1, 2, -1, HUGE, -HUGE,
    "", "a", "b", "A", "ab", "q", "a b", "a1", "a\n", "abcdefgh", "abcdefghi", "~" * 400,
    (), [], {}, ("a",), ["a"], {"a": "b"}, ("a", "b"), ["a", "b"], ("b", "a"), ("a", "a"), (None,), (True, 1),
    (1, 2), (0,), (("a",),), (("a",), ("b",)), [["a"], ["b"]], (("a", "b"),), (("a", "b", 1),), (("a", "b"), 1),
    {("a", "b"): 1}, {1: 2}, {None: None}, ((), ()), (((),), ()), ([], []), ({}, {}), DEEP, [[[["a"]]]],
    {"a": {"b": {"c": []}}}, Net(("q",)), (Net(("q",)),), [Net(("q",))], InvalidNet("q"), (InvalidNet(),),
)


def raised(call, *args, **named):
    """Return the class of the error that a call raises, and what the error keeps, or None."""
    try:
        call(*args, **named)
    except Exception as error:
        kept = [getattr(error, name) for name in ("place", "value", "limit", "many", "reason", "line")
                if hasattr(error, name)]
        return type(error), kept[0] if kept else None
    return None


def same(one, other):
    """Tell whether two values are equal and of the same types throughout."""
    if type(one) is not type(other):
        return False
    if isinstance(one, (tuple, list)):
        return len(one) == len(other) and all(same(x, y) for x, y in zip(one, other))
    if isinstance(one, dict):
        return same(list(one), list(other)) and same(list(one.values()), list(other.values()))
    if isinstance(one, Exception):
        return one is other
    return one == other


def odd_values_but(is_right):
    """Return the odd values for which a test is not true."""
    return [value for value in ODD_VALUES if not is_right(value)]


class Refusals:
    """Mixed into a test case: checks which error comes first, and what it keeps."""

    def check_refusals(self, call, told, named=()):
        """Try wrong values for each parameter.

        `told` has for each parameter its name, a right value, and a list of
        pairs of a wrong value and the error for it, as a class with what the
        error keeps. Every wrong value stands once beside right values and
        once before wrong values for all parameters behind it. Parameters in
        `named` are passed by keyword.
        """
        for at, (name, _, wrong_ones) in enumerate(told):
            self.assertTrue(wrong_ones, name)
            for wrong, error in wrong_ones:
                rows = [[row[1] for row in told]]
                rows.append([row[2][-1][0] if later > at else row[1] for later, row in enumerate(told)])
                rows.append([row[2][0][0] if later > at else row[1] for later, row in enumerate(told)])
                for row in rows:
                    row[at] = wrong
                    self.check_raised(call, told, named, row, error)

    def check_raised(self, call, told, named, row, error):
        args = [value for value, (name, _, _) in zip(row, told) if name not in named]
        keywords = {name: value for value, (name, _, _) in zip(row, told) if name in named}
        found = raised(call, *args, **keywords)
        self.assertIsNotNone(found, (call, row))
        self.assertIs(found[0], error[0], (call, row, found))
        self.assertTrue(same(found[1], error[1]), (call, row, found))

    def check_judge(self, judge, *given, right=()):
        """No odd value makes a judge raise, and none but the right ones is judged True."""
        for value in ODD_VALUES:
            answer = judge(*given, value)
            self.assertIs(answer, any(same(value, good) for good in right), (judge, given, value))


def wrong_nets():
    return [(value, (InvalidNet, None)) for value in ODD_VALUES if not isinstance(value, Net)]


def tie_list(net):
    """Return all ties one by one, as tuples of two places."""
    return [pair for pair, many in net.ties.items() for _ in range(many)]


def all_subsets(places):
    return [subset for size in range(len(places) + 1) for subset in itertools.combinations(places, size)]


def counting_lots(net):
    return [lot for lot in all_subsets(net.places) if 0 < len(lot) < len(net.places)]


def count_cut(net, lot):
    """Count the ties that leave a lot one by one."""
    return sum(1 for tie in tie_list(net) if len(set(tie) & set(lot)) == 1)


def count_pieces(net):
    """Find the pieces by walking along ties."""
    left, pieces = set(net.places), []
    while left:
        piece, fresh = set(), {min(left)}
        while fresh:
            piece |= fresh
            fresh = {place for tie in tie_list(net) for place in tie if set(tie) & fresh} - piece
        pieces.append(tuple(sorted(piece)))
        left -= piece
    return tuple(sorted(pieces))


def all_partings_of(places):
    """Find all partings by giving each place the number of a part."""
    found = set()
    for numbers in itertools.product(range(len(places)), repeat=len(places)):
        parts = [tuple(p for p, k in zip(places, numbers) if k == number) for number in set(numbers)]
        found.add(tuple(sorted(parts)))
    return sorted(found)


def small_nets():
    """All nets with up to three places and few ties, and all simple ones of four places."""
    rows = []
    for size, most in ((1, 0), (2, 5), (3, 3), (4, 1)):
        places = tuple("abcd"[:size])
        pairs = list(itertools.combinations(places, 2))
        for counts in itertools.product(range(most + 1), repeat=len(pairs)):
            rows.append(Net(places, {pair: many for pair, many in zip(pairs, counts) if many}))
    return rows


def mixed_nets(many, seed):
    """Nets with four to seven places, as told by a seed: rings with chords, bunches, and others."""
    numbers = random.Random(seed)
    rows = []
    while len(rows) < many:
        places = [chr(ord("a") + at) for at in range(numbers.choice((4, 5, 5, 6, 6, 7)))]
        numbers.shuffle(places)
        net = Net(tuple(places))
        kind = numbers.randrange(4)
        if kind < 2:
            for one, other in zip(places, places[1:] + places[:1]):
                net = net.joined(one, other, kind + 1)
        if kind == 2:
            for at in range(1, len(places)):
                net = net.joined(places[at], places[numbers.randrange(at)], numbers.choice((1, 2, 2)))
        for _ in range(numbers.choice((0, 1, 2, 3, 5, 8))):
            net = net.joined(*numbers.sample(places, 2), numbers.choice((1, 1, 2)))
        rows.append(net)
    return rows
