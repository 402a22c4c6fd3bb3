"""The fewest new ties that raise the least cut."""

from holdsfast.base.lots import cut, cut_table, is_lot
from holdsfast.base.nets import check_net
from holdsfast.base.parts import all_pairings, are_new_ties, is_ascending, pair_of
from holdsfast.errors import InvalidOperation
from holdsfast.least.cuts import least_cut, least_lots, leaves

MAX_NEW = 30


def fewest_raising(net):
    """Return the least number of new ties that raise the net."""
    _check_held(net)
    return _half_of(leaves(net))


def _half_of(rows):
    """Return half of how many there are, rounded up."""
    return (len(rows) + 1) // 2


def raising(net):
    """Return as few new ties as any that raise the net.

    It does not matter which place of a leaf a new tie has. So it is enough to
    try all pairings of one place of each leaf; if one is left over, a second
    tie of the first leaf is as good as any.
    """
    _check_held(net)
    ends = tuple([leaf[0] for leaf in leaves(net)])
    rows = [_as_ties(pairing) for pairing in all_pairings(ends + ends[:len(ends) % 2])]
    return [ties for ties in rows if _do_raise(net, ties)][0]


def _as_ties(pairing):
    return tuple(sorted([pair_of(one, other) for one, other in pairing]))


def _do_raise(net, ties):
    return all([_leaving(ties, lot) > 0 for lot in least_lots(net)])


def _leaving(ties, lot):
    """Return how many of some new ties leave a lot."""
    return len([one for one, other in ties if (one in lot) != (other in lot)])


def is_raising(net, value):
    """Tell whether a value is new ties that raise the net."""
    _check_held(net)
    return are_new_ties(net.places, value) and _do_raise(net, value)


def raising_paper(net):
    """Return a pair of new ties that raise the net, and the least lots that bar fewer ones."""
    return (raising(net), leaves(net))


def is_raising_paper(net, value):
    """Tell whether a value is such a pair."""
    _check_held(net)
    if not isinstance(value, tuple) or len(value) != 2:
        return False
    ties, bars = value
    return is_raising(net, ties) and _are_least_apart(net, bars) and len(ties) == _half_of(bars)


def _are_least_apart(net, value):
    """Tell whether a value is an ascending tuple of least lots without common places."""
    if not isinstance(value, tuple) or not all([is_lot(net, lot) for lot in value]) or not is_ascending(value):
        return False
    least = least_cut(net)
    places = [place for lot in value for place in lot]
    return all([cut(net, lot) == least for lot in value]) and len(set(places)) == len(places)


def with_ties(net, ties):
    """Return the dict from all lots that count to their cuts in the net with new ties."""
    check_net(net)
    if not are_new_ties(net.places, ties) or len(ties) > MAX_NEW:
        raise InvalidOperation("these are no new ties, or too many")
    _check_held(net)
    # There can be more ties in all than a net has, so no net is made.
    table = cut_table(net)
    return {lot: table[lot] + _leaving(ties, lot) for lot in table}


def _check_held(net):
    """Refuse what is no net, and a net that has one place, or whose least cut is 0."""
    if least_cut(net) == 0:
        raise InvalidOperation("the least cut is 0")
