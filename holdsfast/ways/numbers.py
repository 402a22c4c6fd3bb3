"""Numbers of two places: ways between them that share no tie, and the lots that bar more."""

from holdsfast.base.checks import check_two
from holdsfast.base.lots import cut, cut_table, is_lot
from holdsfast.base.nets import check_net
from holdsfast.base.parts import pair_of
from holdsfast.ways.flows import ways_through


def number(net, one, other):
    """Return the number of two places."""
    _check_ends(net, one, other)
    return min(list(_cuts_between(net, one, other).values()))


def numbers(net):
    """Return the dict from all pairs to their numbers."""
    table = cut_table(net)
    return {
        (one, other): min([table[lot] for lot in table if (one in lot) != (other in lot)])
        for one, other in net.pairs
    }


def family(net, one, other):
    """Return a tuple of as many ways as the number tells, which share no tie."""
    _check_ends(net, one, other)
    room = {}
    ties = net.ties
    for near, far in ties:
        room[(near, far)] = ties[(near, far)]
        room[(far, near)] = ties[(near, far)]
    return ways_through(net.places, room, one, other)


def is_family(net, one, other, value):
    """Tell whether a value is such a tuple of ways."""
    _check_ends(net, one, other)
    return _are_ways(net, one, other, value) and len(value) == number(net, one, other)


def least_lot(net, one, other):
    """Return the lot with the one place and without the other that has the least cut, within all such lots."""
    _check_ends(net, one, other)
    cuts = _cuts_between(net, one, other)
    least = min(list(cuts.values()))
    return min([lot for lot in cuts if cuts[lot] == least], key=len)


def number_paper(net, one, other):
    """Return a pair of ways that share no tie, and a lot with as large a cut that has the one place alone."""
    return (family(net, one, other), least_lot(net, one, other))


def is_number_paper(net, one, other, value):
    """Tell whether a value is such a pair."""
    _check_ends(net, one, other)
    if not isinstance(value, tuple) or len(value) != 2:
        return False
    ways, lot = value
    if not _are_ways(net, one, other, ways) or not is_lot(net, lot):
        return False
    return one in lot and other not in lot and cut(net, lot) == len(ways)


def _check_ends(net, one, other):
    check_net(net)
    check_two(net.places, one, other)


def _cuts_between(net, one, other):
    """Return the dict from the lots with the one place and without the other to their cuts."""
    table = cut_table(net)
    return {lot: table[lot] for lot in table if one in lot and other not in lot}


def _are_ways(net, one, other, value):
    """Tell whether a value is a tuple of ways between two places that share no tie."""
    if not isinstance(value, tuple) or not all([is_row_between(net, one, other, way) for way in value]):
        return False
    used = {}
    for way in value:
        for near, far in zip(way, way[1:]):
            pair = pair_of(near, far)
            used[pair] = used.get(pair, 0) + 1
    ties = net.ties
    return all([used[pair] <= ties.get(pair, 0) for pair in used])


def is_row_between(net, one, other, value):
    """Tell whether a value goes from the one place to the other, none twice; ties are not looked at."""
    if not isinstance(value, tuple) or not all([place in net for place in value]):
        return False
    if len(value) < 2 or len(set(value)) != len(value):
        return False
    return value[0] == one and value[-1] == other
