"""Ties led past a place: by which pairs all numbers of the other places stay."""

from holdsfast.base.checks import check_place
from holdsfast.base.lots import cut, is_lot
from holdsfast.base.nets import check_net
from holdsfast.base.words import is_place
from holdsfast.errors import InvalidOperation
from holdsfast.ways.numbers import least_lot, number, numbers
from holdsfast.ways.trees import cut_tree, is_cut_tree


def pairs_at(net, place):
    """Return the ascending tuple of all pairs at a place."""
    check_at(net, place)
    near = net.near(place)
    apart = [(one, other) for one in near for other in near if one < other]
    return tuple(sorted(apart + [(one, one) for one in near if net.tied(place, one) > 1]))


def keeping_pairs(net, place):
    """Return the ascending tuple of the pairs at a place that keep."""
    told = other_numbers(net, place)
    return tuple([pair for pair in pairs_at(net, place) if other_numbers(_led(net, place, pair), place) == told])


def other_numbers(net, place):
    """Return the dict from the pairs of places other than one to their numbers."""
    told = numbers(net)
    return {pair: told[pair] for pair in told if place not in pair}


def led_past(net, place, pair):
    """Return the net behind, with the place."""
    _check_pair(net, place, pair)
    return _led(net, place, pair)


def _led(net, place, pair):
    one, other = pair
    behind = net.untied(place, one).untied(place, other)
    return behind if one == other else behind.joined(one, other)


def past_paper(net, place, pair):
    """Return a cut tree of the net and one of that behind, or two other places with a lot that has a lesser cut."""
    behind = led_past(net, place, pair)
    told, left = other_numbers(net, place), other_numbers(behind, place)
    lost = [two for two in told if left[two] < told[two]]
    if not lost:
        return ("keeps", cut_tree(net), cut_tree(behind))
    one, other = lost[0]
    return ("loses", one, other, least_lot(behind, one, other))


def is_past_paper(net, place, pair, value):
    """Tell whether a value is one of these."""
    behind = led_past(net, place, pair)
    if not isinstance(value, tuple) or not value:
        return False
    if value[0] == "keeps" and len(value) == 3:
        kept = other_numbers(net, place) == other_numbers(behind, place)
        return kept and is_cut_tree(net, value[1]) and is_cut_tree(behind, value[2])
    if value[0] == "loses" and len(value) == 4:
        others = [other for other in net.places if other != place]
        return value[1] in others and value[2] in others and _is_lost(net, behind, value[1], value[2], value[3])
    return False


def _is_lost(net, behind, one, other, lot):
    """Tell whether a value is a lot with one of two places alone that bars as many ways as there were."""
    if not is_lot(net, lot) or (one in lot) == (other in lot):
        return False
    return cut(behind, lot) < number(net, one, other)


def whole_row(net, place):
    """Return a whole row at a place, or None if there is none."""
    check_at(net, place)
    if net.degrees[place] % 2 == 1:
        return None
    return _row_on(net, place)


def _row_on(net, place):
    """Return a whole row at a place with an even number of ties, or None.

    The pairs of a row can stand in any order, so it is enough to try with
    which one the first tie goes. While no tie of the place is the only way
    over, the first pair that keeps is right, and again no tie is; so the ties
    that are come first, of which there are at most as many as places.
    """
    near = net.near(place)
    if not near:
        return ()
    first = ([one for one in near if number(net, place, one) == 1] + list(near))[0]
    told = other_numbers(net, place)
    for pair in [two for two in pairs_at(net, place) if first in two]:
        behind = _led(net, place, pair)
        if other_numbers(behind, place) == told:
            row = _row_on(behind, place)
            if row is not None:
                return (pair,) + row
    return None


def is_whole_row(net, place, value):
    """Tell whether a value is a whole row at a place."""
    check_at(net, place)
    return behind_row(net, place, value) is not None


def behind_row(net, place, value):
    """Return the net behind a whole row, or None if a value is none."""
    if not isinstance(value, tuple):
        return None
    behind = net
    for pair in value:
        if pair not in pairs_at(behind, place):
            return None
        behind = _led(behind, place, pair)
    if behind.near(place) or other_numbers(behind, place) != other_numbers(net, place):
        return None
    return behind


def pinched(net, place, pairs):
    """Return the net that is pinched with a new place by pairs of its places."""
    check_net(net)
    if not is_place(place) or place in net:
        raise InvalidOperation("this is no new place")
    if not _can_pinch(net, pairs):
        raise InvalidOperation("these are no pairs between which there are so many ties")
    made = net.with_place(place)
    for one, other in pairs:
        if one != other:
            made = made.untied(one, other)
    for one, other in pairs:
        made = made.joined(one, place).joined(other, place)
    return made


def _can_pinch(net, value):
    if not isinstance(value, tuple) or not all([_is_ordered(net, pair) for pair in value]):
        return False
    apart = [(one, other) for one, other in value if one != other]
    return all([apart.count(pair) <= net.tied(pair[0], pair[1]) for pair in apart])


def _is_ordered(net, value):
    """Tell whether a value is a tuple of two places, perhaps equal, the lesser one first."""
    if not isinstance(value, tuple) or len(value) != 2:
        return False
    return value[0] in net and value[1] in net and value[0] <= value[1]


def check_at(net, place):
    """Refuse what is no net, and what is no place of it."""
    check_net(net)
    check_place(net.places, place)


def _check_pair(net, place, pair):
    if pair not in pairs_at(net, place):
        raise InvalidOperation("this is no pair at the place")
