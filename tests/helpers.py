"""What several tests use: nets, wrong values, and a second way of counting."""

import functools
import itertools
import random

from holdsfast.base.nets import Net
from holdsfast.errors import InvalidNet
from holdsfast.play.game import Play
from holdsfast.text.shell import Shell
from holdsfast.use.live import Live

RING = Net(("a", "b", "c", "d"), {("a", "b"): 1, ("a", "d"): 1, ("b", "c"): 1, ("c", "d"): 1})
FULL = Net(
    ("a", "b", "c", "d"),
    {("a", "b"): 1, ("a", "c"): 1, ("a", "d"): 1, ("b", "c"): 1, ("b", "d"): 1, ("c", "d"): 1},
)
HUB = Net(("a", "b", "c", "z"), {("a", "z"): 2, ("b", "z"): 1, ("c", "z"): 1, ("a", "b"): 1})
PATH = Net(("a", "b", "c"), {("a", "b"): 2, ("b", "c"): 1})
POINT = Net(("a",))
TWO = Net(("a", "b"), {("a", "b"): 3})
APART = Net(("a", "b", "c", "d", "e"), {("a", "b"): 2, ("c", "e"): 1})
SEVEN = Net.full(("a", "b", "c", "d", "e", "f", "g"))
CROWD = Net.full(("a", "b", "c", "d", "e", "f"), many=2).times(2)
# Two rings of least cuts meet in a node that has no place.
PAIRED = Net(tuple("abcdef"), {("a", "b"): 2, ("b", "c"): 2, ("d", "e"): 2, ("e", "f"): 2, ("a", "d"): 1, ("a", "f"): 1,
                               ("c", "d"): 1, ("c", "f"): 1})
# Here steps of earlier ways have to be taken back before all ways from a to g are found.
WOVEN = Net(tuple("abcdefg"), {
    ("a", "b"): 2, ("a", "c"): 1, ("a", "e"): 1, ("a", "f"): 3, ("b", "c"): 1, ("b", "e"): 1, ("b", "f"): 3,
    ("b", "g"): 3, ("c", "d"): 1, ("c", "e"): 1, ("d", "e"): 1, ("d", "g"): 3, ("e", "g"): 3})
TANGLED = Net(tuple("abcdefg"), {
    ("a", "d"): 3, ("a", "e"): 3, ("a", "f"): 1, ("a", "g"): 3, ("b", "c"): 1, ("b", "d"): 3, ("b", "e"): 1,
    ("b", "g"): 2, ("c", "d"): 1, ("c", "e"): 2, ("c", "g"): 1, ("d", "f"): 2, ("e", "g"): 1, ("f", "g"): 3})
EXAMPLES = (RING, FULL, HUB, PATH, POINT, TWO, APART, SEVEN, CROWD, PAIRED, WOVEN, TANGLED)

HUGE = 10 ** 39 + 7
DEEP = (((((((("a",),),),),),),),)

# Values of every kind that can be passed where another kind is asked for.
ODD_VALUES = (
    True, False, None, 0, 1, 2, -1, HUGE, -HUGE,
    "", "a", "b", "A", "ab", "q", "a b", "a1", "a\n", "abcdefgh", "abcdefghi", "~" * 400,
    (), [], {}, ("a",), ["a"], {"a": "b"}, ("a", "b"), ["a", "b"], ("b", "a"), ("a", "a"), (None,), (True, 1),
    (1, 2), (0,), (("a",),), (("a",), ("b",)), [["a"], ["b"]], (("a", "b"),), (("a", "b", 1),), (("a", "b"), 1),
    {("a", "b"): 1}, {1: 2}, {None: None}, ((), ()), (((),), ()), ([], []), ({}, {}), DEEP, [[[["a"]]]],
    {"a": {"b": {"c": []}}}, Net(("q",)), (Net(("q",)),), [Net(("q",))], InvalidNet("q"), (InvalidNet(),),
    Live(Net(("q",))), (Live(Net(("q",))), "a"), Play(Net(("q",))), {"a": Play(Net(("q",)))}, Shell(), [Shell()],
)


def raised(call, *args, **named):
    """Return the class of the error that a call raises, and what the error keeps, or None."""
    try:
        call(*args, **named)
    except Exception as error:
        kept = [getattr(error, name) for name in ("place", "value", "limit", "many", "reason", "line")
                if hasattr(error, name)]
        return type(error), kept[0] if kept else None
    return None


def same(one, other):
    """Tell whether two values are equal and of the same types throughout."""
    if type(one) is not type(other):
        return False
    if isinstance(one, (tuple, list)):
        return len(one) == len(other) and all(same(x, y) for x, y in zip(one, other))
    if isinstance(one, dict):
        return same(list(one), list(other)) and same(list(one.values()), list(other.values()))
    if isinstance(one, Exception):
        return one is other
    return one == other


def odd_values_but(is_right):
    """Return the odd values for which a test is not true."""
    return [value for value in ODD_VALUES if not is_right(value)]


class Refusals:
    """Mixed into a test case: checks which error comes first, and what it keeps."""

    def check_refusals(self, call, told, named=()):
        """Try wrong values for each parameter.

        `told` has for each parameter its name, a right value, and a list of
        pairs of a wrong value and the error for it, as a class with what the
        error keeps. Every wrong value stands once beside right values and
        once before wrong values for all parameters behind it. Parameters in
        `named` are passed by keyword.
        """
        for at, (name, _, wrong_ones) in enumerate(told):
            self.assertTrue(wrong_ones, name)
            for wrong, error in wrong_ones:
                rows = [[row[1] for row in told]]
                rows.append([row[2][-1][0] if later > at else row[1] for later, row in enumerate(told)])
                rows.append([row[2][0][0] if later > at else row[1] for later, row in enumerate(told)])
                for row in rows:
                    row[at] = wrong
                    self.check_raised(call, told, named, row, error)

    def check_raised(self, call, told, named, row, error):
        args = [value for value, (name, _, _) in zip(row, told) if name not in named]
        keywords = {name: value for value, (name, _, _) in zip(row, told) if name in named}
        found = raised(call, *args, **keywords)
        self.assertIsNotNone(found, (call, row))
        self.assertIs(found[0], error[0], (call, row, found))
        self.assertTrue(same(found[1], error[1]), (call, row, found))

    def check_judge(self, judge, *given, right=()):
        """No odd value makes a judge raise, and none but the right ones is judged True."""
        for value in ODD_VALUES:
            answer = judge(*given, value)
            self.assertIs(answer, any(same(value, good) for good in right), (judge, given, value))


def wrong_nets():
    return [(value, (InvalidNet, None)) for value in ODD_VALUES if not isinstance(value, Net)]


def tie_list(net):
    """Return all ties one by one, as tuples of two places."""
    return [pair for pair, many in net.ties.items() for _ in range(many)]


def all_subsets(places):
    return [subset for size in range(len(places) + 1) for subset in itertools.combinations(places, size)]


def counting_lots(net):
    return [lot for lot in all_subsets(net.places) if 0 < len(lot) < len(net.places)]


def count_cut(net, lot):
    """Count the ties that leave a lot one by one."""
    return sum(1 for tie in tie_list(net) if len(set(tie) & set(lot)) == 1)


def count_inside(net, lot):
    """Count the ties inside a lot one by one."""
    return sum(1 for tie in tie_list(net) if set(tie) <= set(lot))


def find_numbers(net):
    """Find the numbers of all pairs as the least cuts of the lots with one of both alone."""
    cuts = {lot: count_cut(net, lot) for lot in counting_lots(net) if net.places[0] in lot}
    return {(one, other): min(cuts[lot] for lot in cuts if (one in lot) != (other in lot))
            for one, other in itertools.combinations(net.places, 2)}


def count_across(net, parting):
    """Count the ties across a parting one by one."""
    return sum(1 for one, other in tie_list(net) if not any(one in part and other in part for part in parting))


def count_pieces(net):
    """Find the pieces by walking along ties."""
    left, pieces = set(net.places), []
    while left:
        piece, fresh = set(), {min(left)}
        while fresh:
            piece |= fresh
            fresh = {place for tie in tie_list(net) for place in tie if set(tie) & fresh} - piece
        pieces.append(tuple(sorted(piece)))
        left -= piece
    return tuple(sorted(pieces))


@functools.lru_cache(maxsize=None)
def all_partings_of(places):
    """Find all partings by giving each place the number of a part, at most how many places stand ahead of it."""
    found = set()
    for numbers in itertools.product(*[range(at + 1) for at in range(len(places))]):
        parts = [tuple(p for p, k in zip(places, numbers) if k == number) for number in set(numbers)]
        found.add(tuple(sorted(parts)))
    return tuple(sorted(found))


def is_plain_lot(net, value):
    """Judge a lot, which may be empty or have all places, by a look at the types of all that is in it."""
    if type(value) is not tuple or not all(type(place) is str and place in net.places for place in value):
        return False
    return list(value) == sorted(set(value))


def is_plain_tree_form(places, value):
    """Judge an ascending tuple of triples that joins places without a circle, by a look at all types."""
    if type(value) is not tuple or not all(type(triple) is tuple and len(triple) == 3 for triple in value):
        return False
    hanging = {place: {place} for place in places}
    for one, other, many in value:
        if type(one) is not str or type(other) is not str or type(many) is not int:
            return False
        if one not in places or other not in places or not one < other or other in hanging[one]:
            return False
        both = hanging[one] | hanging[other]
        hanging.update({place: both for place in both})
    return list(value) == sorted(value) and len(value) == len(places) - 1


def is_plain_parting(net, value):
    if type(value) is not tuple or not all(is_plain_lot(net, part) for part in value):
        return False
    return () not in value and list(value) == sorted(value) and sorted(sum(value, ())) == list(net.places)


def is_plain_forest(net, value):
    """Judge a forest by putting its pairs in one after another, none within what hangs together already."""
    if type(value) is not tuple or not all(is_plain_lot(net, pair) and len(pair) == 2 for pair in value):
        return False
    hanging = {place: {place} for place in net.places}
    for one, other in value:
        if (one, other) not in net.ties or other in hanging[one]:
            return False
        both = hanging[one] | hanging[other]
        hanging.update({place: both for place in both})
    return list(value) == sorted(value)


def is_plain_tree(net, value):
    return is_plain_forest(net, value) and len(value) == len(net.places) - 1


def are_plain_forests(net, value, many=None, times=1):
    """Judge a tuple of forests, so many if that is told, that share no tie of a net with each tie so often."""
    if type(value) is not tuple or not all(is_plain_forest(net, forest) for forest in value):
        return False
    left = tie_list(net) * times
    for forest in value:
        for pair in forest:
            if pair not in left:
                return False
            left.remove(pair)
    return many is None or len(value) == many


def is_labelled(value, word):
    """Tell whether a value is a pair of a word and something else."""
    return type(value) is tuple and len(value) == 2 and type(value[0]) is str and value[0] == word


def is_two(value):
    return type(value) is tuple and len(value) == 2


def count_numbers(value):
    """Tell whether a dict has only integers of at least 1 as its values."""
    return all(type(many) is int and many >= 1 for many in value.values())


def changed_values(value):
    """Yield values with one thing changed, at any depth; some can be equal to the first one, or right all the same."""
    if isinstance(value, tuple):
        yield from (list(value), value[1:], value[:-1], value[::-1], value[:1] + value, value + ((),), value + (None,))
        for at, item in enumerate(value):
            yield value[:at] + value[at + 1:]
            yield value[:at] + (item,) + value[at:]
            for other in changed_values(item):
                yield value[:at] + (other,) + value[at + 1:]
    elif isinstance(value, dict):
        yield from (list(value.items()), tuple(value), {**value, "q": 1}, {**value, ("a", "q"): 1}, {**value, None: 1})
        for key in value:
            less = {other: value[other] for other in value if other != key}
            yield less
            for many in changed_values(value[key]):
                yield {**value, key: many}
            for other in changed_values(key):
                if is_hashed(other):
                    yield {**less, other: value[key]}
    elif isinstance(value, int):
        yield from (value + 1, value - 1, -value, str(value), None, (value,), HUGE, bool(value))
    elif isinstance(value, str):
        yield from ("q", "a", "b", "c", "d", value + "a", "", None, 1, (value,), [value])


def is_hashed(value):
    try:
        hash(value)
    except TypeError:
        return False
    return True


def turned_ways(net):
    """Yield all streets of a net: all ways of turning its ties."""
    rows = list(net.ties.items())
    for counts in itertools.product(*[range(many + 1) for _, many in rows]):
        turned = {}
        for ((one, other), many), back in zip(rows, counts):
            turned.update({(one, other): many - back, (other, one): back})
        yield {step: many for step, many in sorted(turned.items()) if many}


def some_streets(net, many, seed):
    """Streets of a net, turned as a seed tells."""
    numbers = random.Random(seed)
    rows = []
    for _ in range(many):
        streets = {}
        for tie in tie_list(net):
            step = tie[::numbers.choice((1, -1))]
            streets[step] = streets.get(step, 0) + 1
        rows.append(streets)
    return rows


def small_nets():
    """All nets with up to three places and few ties, and all simple ones of four places."""
    rows = []
    for size, most in ((1, 0), (2, 5), (3, 3), (4, 1)):
        places = tuple("abcd"[:size])
        pairs = list(itertools.combinations(places, 2))
        for counts in itertools.product(range(most + 1), repeat=len(pairs)):
            rows.append(Net(places, {pair: many for pair, many in zip(pairs, counts) if many}))
    return rows


def mixed_nets(many, seed):
    """Nets with four to seven places, as told by a seed: rings with chords, bunches, and others."""
    numbers = random.Random(seed)
    rows = []
    while len(rows) < many:
        places = [chr(ord("a") + at) for at in range(numbers.choice((4, 5, 5, 6, 6, 7)))]
        numbers.shuffle(places)
        net = Net(tuple(places))
        kind = numbers.randrange(4)
        if kind < 2:
            for one, other in zip(places, places[1:] + places[:1]):
                net = net.joined(one, other, kind + 1)
        if kind == 2:
            for at in range(1, len(places)):
                net = net.joined(places[at], places[numbers.randrange(at)], numbers.choice((1, 2, 2)))
        for _ in range(numbers.choice((0, 1, 2, 3, 5, 8))):
            net = net.joined(*numbers.sample(places, 2), numbers.choice((1, 1, 2)))
        rows.append(net)
    return rows
