"""Lots of places with their cuts, and partings of a net."""

from holdsfast.base.nets import check_net
from holdsfast.base.parts import all_lots, all_partings, gathered, is_ascending, is_forest_of, is_lot_of
from holdsfast.errors import InvalidLot, InvalidOperation, InvalidParting


def is_lot(net, value):
    """Tell whether a value is a lot of the net that counts."""
    check_net(net)
    return is_lot_of(net.places, value) and 0 < len(value) < len(net)


def is_parting(net, value):
    """Tell whether a value is a parting of the net."""
    check_net(net)
    places = net.places
    if not isinstance(value, tuple) or not all([is_lot_of(places, part) for part in value]):
        return False
    if not all([len(part) > 0 for part in value]) or not is_ascending(value):
        return False
    return sorted([place for part in value for place in part]) == list(places)


def check_lot(net, lot):
    """Refuse what is no net, and what is no lot of it that counts."""
    if not is_lot(net, lot):
        raise InvalidLot("this is no lot of the net that counts")


def check_parting(net, parting):
    """Refuse what is no net, and what is no parting of it."""
    if not is_parting(net, parting):
        raise InvalidParting("this is no parting of the net")


def lots(net):
    """Return the ascending tuple of all lots that count."""
    check_net(net)
    return tuple([lot for lot in all_lots(net.places) if 0 < len(lot) < len(net)])


def cut(net, lot):
    """Return the number of ties from the places of a lot to other ones."""
    check_lot(net, lot)
    return _cut_of(net.ties, lot)


def _cut_of(ties, lot):
    return sum([ties[(one, other)] for one, other in ties if (one in lot) != (other in lot)])


def inside(net, lot):
    """Return the number of ties inside a lot, which may be empty or have all places."""
    check_net(net)
    if not is_lot_of(net.places, lot):
        raise InvalidLot("this is no lot of the net")
    return _inside_of(net.ties, lot)


def _inside_of(ties, lot):
    return sum([ties[(one, other)] for one, other in ties if one in lot and other in lot])


def inside_table(net):
    """Return the dict from all lots with a place, one of all places too, to the numbers of ties inside."""
    return _insides(net.places, net.ties)


def _insides(places, ties):
    return {lot: _inside_of(ties, lot) for lot in all_lots(places) if lot}


def cut_table(net):
    """Return the dict from all lots that count to their cuts."""
    check_net(net)
    ties = net.ties
    return {lot: _cut_of(ties, lot) for lot in lots(net)}


def rest(net, lot):
    """Return the lot of the other places."""
    check_lot(net, lot)
    return tuple([place for place in net.places if place not in lot])


def do_cross(net, one, other):
    """Tell whether two lots cross."""
    check_lot(net, one)
    check_lot(net, other)
    both = len([place for place in one if place in other])
    neither = len(net) - len(one) - len(other) + both
    return min(both, neither, len(one) - both, len(other) - both) > 0


def partings(net):
    """Yield all partings of the net, ascending."""
    check_net(net)
    for parting in all_partings(net.places):
        yield parting


def across(net, parting):
    """Return the number of ties across a parting."""
    check_parting(net, parting)
    ties = net.ties
    # Each tie across leaves two parts, so it is in two of their cuts.
    return sum([_cut_of(ties, part) for part in parting]) // 2


def across_table(net):
    """Return the dict from all partings, ascending, to the numbers of ties across."""
    return across_counts(net.places, net.ties)


def across_counts(places, ties):
    """Return this dict for some ties between the places, as many as they may be."""
    held = _insides(places, ties)
    size = sum(list(ties.values()))
    return {parting: size - sum([held[part] for part in parting]) for parting in all_partings(places)}


def is_net_forest(net, value):
    """Tell whether a value is a forest of the net."""
    check_net(net)
    return is_forest_of(net.places, net.ties, value)


def parted_by(net, forest):
    """Return the finest parting in which the places of each pair of a forest are in one part."""
    if not is_net_forest(net, forest):
        raise InvalidOperation("this is no forest of the net")
    return gathered(net.places, forest)


def is_finer(net, parting, other):
    """Tell whether a parting is finer than another one, or equal."""
    return met(net, parting, other) == parting


def met(net, parting, other):
    """Return the coarsest parting that is finer than both."""
    _check_both(net, parting, other)
    shared = [tuple([place for place in part if place in beside]) for part in parting for beside in other]
    return tuple(sorted([part for part in shared if part]))


def merged(net, parting, other):
    """Return the finest parting that both are finer than."""
    _check_both(net, parting, other)
    return gathered(net.places, [(part[0], place) for part in parting + other for place in part])


def _check_both(net, parting, other):
    check_parting(net, parting)
    check_parting(net, other)
