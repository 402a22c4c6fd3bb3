"""Texts of values, by kinds: what is written is read as the same value."""

from holdsfast.base.nets import Net
from holdsfast.base.parts import is_ascending
from holdsfast.base.words import is_integer, is_place
from holdsfast.errors import InvalidNet, InvalidOperation, ParseError
from holdsfast.use.live import is_claim

KINDS = ("claim", "forest", "join", "lot", "net", "parting", "streets", "tree")
MAX_DIGITS = 12
MAX_SHORT = 999999999999
EMPTY = "-"


def is_kind(value):
    """Tell whether a value is a kind."""
    return value in KINDS


def write(kind, value):
    """Return the text of a value."""
    _check_kind(kind)
    judge = JUDGES[kind]
    if not judge(value):
        raise InvalidOperation("this is no value of this kind")
    writer = WRITERS[kind]
    return writer(value)


def read(kind, text):
    """Return the value with a text."""
    _check_kind(kind)
    if not isinstance(text, str):
        raise ParseError(None)
    if kind == "net":
        return _read_net(text.split("\n"))
    line, *more = text.split("\n")
    value = _read_line(kind, line)
    if value is None:
        raise ParseError(0)
    if more:
        raise ParseError(1)
    return value


def is_text(kind, value):
    """Tell whether a value is a text that is read as a value of this kind."""
    try:
        read(kind, value)
    except (ParseError, InvalidNet):
        return False
    return True


def _check_kind(kind):
    if not is_kind(kind):
        raise InvalidOperation("this is no kind")


def number_of(text):
    """Return the integer of at most twelve digits with a text, None if there is none."""
    digits = text.removeprefix("-")
    if not 1 <= len(digits) <= MAX_DIGITS or not all(["0" <= sign <= "9" for sign in digits]):
        return None
    many = int(text)
    return many if str(many) == text else None


def _is_count(value, least):
    """Tell whether a value is an integer that texts can have, no less than told."""
    return is_integer(value) and least <= value <= MAX_SHORT


def _is_lot(value):
    return isinstance(value, tuple) and all([is_place(place) for place in value]) and is_ascending(value)


def _is_pair(value):
    return _is_lot(value) and len(value) == 2


def _is_parting(value):
    if not isinstance(value, tuple) or not all([_is_lot(part) and len(part) > 0 for part in value]):
        return False
    places = [place for part in value for place in part]
    return is_ascending(value) and len(set(places)) == len(places)


def _is_forest(value):
    return isinstance(value, tuple) and all([_is_pair(pair) for pair in value]) and is_ascending(value)


def _is_tree(value):
    return isinstance(value, tuple) and all([_is_triple(triple) for triple in value]) and is_ascending(value)


def _is_triple(value):
    return isinstance(value, tuple) and len(value) == 3 and _is_pair(value[:2]) and _is_count(value[2], 0)


def _is_join(value):
    return isinstance(value, dict) and all([_is_pair(pair) and _is_count(value[pair], 1) for pair in value])


def _is_streets(value):
    return isinstance(value, dict) and all([_is_step(step) and _is_count(value[step], 1) for step in value])


def _is_step(value):
    if not isinstance(value, tuple) or len(value) != 2:
        return False
    return is_place(value[0]) and is_place(value[1]) and value[0] != value[1]


def _is_net(value):
    return isinstance(value, Net)


def _is_short_claim(value):
    if not is_claim(value):
        return False
    told = value[-1] if isinstance(value[-1], tuple) else (value[-1],)
    return all([abs(many) <= MAX_SHORT for many in told])


def _write_lot(lot):
    return _row(lot)


def _row(items):
    return " ".join(items) if items else EMPTY


def _write_parting(parting):
    return " | ".join([_write_lot(part) for part in parting]) if parting else EMPTY


def _write_forest(forest):
    return _row(["-".join(pair) for pair in forest])


def _write_tree(tree):
    return _row([f"{one}-{other}:{many}" for one, other, many in tree])


def _write_join(join):
    return _write_tree([pair + (join[pair],) for pair in sorted(list(join))])


def _write_streets(streets):
    return _row([f"{one}>{other}:{streets[(one, other)]}" for one, other in sorted(list(streets))])


def _write_net(net):
    ties = net.ties
    return "\n".join([_write_lot(net.places)] + [_write_join({pair: ties[pair]}) for pair in ties])


def _write_claim(claim):
    return " ".join([*claim[:-1], number_text(claim[-1])])


def number_text(value):
    """Return the text of an integer, or of a fraction."""
    return f"{value[0]}/{value[1]}" if isinstance(value, tuple) else str(value)


def _read_line(kind, line):
    """Return the value with a text of one line, None if there is none.

    The readers take apart what they are given as well as they can. Whether it
    was a text of a value then shows if that is written.
    """
    reader = READERS[kind]
    value = reader(line)
    judge = JUDGES[kind]
    writer = WRITERS[kind]
    return value if judge(value) and writer(value) == line else None


def _items(line):
    return [] if line == EMPTY else line.split(" ")


def _read_lot(line):
    return tuple(_items(line))


def _read_parting(line):
    return () if line == EMPTY else tuple([_read_lot(part) for part in line.split(" | ")])


def _read_forest(line):
    return tuple([tuple(item.split("-")) for item in _items(line)])


def _read_tree(line):
    return tuple([places + (many,) for places, many in _read_counts(line, "-")])


def _read_join(line):
    return {places: many for places, many in _read_counts(line, "-")}


def _read_streets(line):
    return {places: many for places, many in _read_counts(line, ">")}


def _read_counts(line, sign):
    """Return the list of the places and the number of each item, like `a-b:2` with the sign `-`."""
    rows = [item.partition(":") for item in _items(line)]
    return [(tuple(places.split(sign)), number_of(many)) for places, _, many in rows]


def _read_claim(line):
    *words, last = line.split(" ")
    if "/" not in last:
        return (*words, number_of(last))
    numerator, _, denominator = last.partition("/")
    return (*words, (number_of(numerator), number_of(denominator)))


def _read_net(lines):
    places = _read_line("lot", lines[0])
    if places is None:
        raise ParseError(0)
    ties = {}
    for at in range(1, len(lines)):
        row = _read_line("tree", lines[at])
        # Each pair stands once, behind all lesser ones.
        if row is None or len(row) != 1 or row[0][2] < 1 or not all([pair < row[0][:2] for pair in list(ties)]):
            raise ParseError(at)
        ties[row[0][:2]] = row[0][2]
    return Net(places, ties)


JUDGES = {
    "claim": _is_short_claim, "forest": _is_forest, "join": _is_join, "lot": _is_lot, "net": _is_net,
    "parting": _is_parting, "streets": _is_streets, "tree": _is_tree,
}
WRITERS = {
    "claim": _write_claim, "forest": _write_forest, "join": _write_join, "lot": _write_lot, "net": _write_net,
    "parting": _write_parting, "streets": _write_streets, "tree": _write_tree,
}
READERS = {
    "claim": _read_claim, "forest": _read_forest, "join": _read_join, "lot": _read_lot, "parting": _read_parting,
    "streets": _read_streets, "tree": _read_tree,
}
