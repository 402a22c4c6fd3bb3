"""Least cuts of a net, and the lots that have them."""

from holdsfast.base.lots import cut, cut_table, do_cross, is_lot
from holdsfast.base.nets import check_several
from holdsfast.ways.trees import cut_tree, is_cut_tree


def least_cut(net):
    """Return the least cut of a lot that counts."""
    check_several(net)
    return min(list(cut_table(net).values()))


def least_lots(net):
    """Return the ascending tuple of the least lots that have the first place."""
    check_several(net)
    return tuple([lot for lot in _all_least(net) if net.places[0] in lot])


def is_least(net, lot):
    """Tell whether a lot is least."""
    return cut(net, lot) == least_cut(net)


def leaves(net):
    """Return the ascending tuple of the least lots that have no lesser least lot within."""
    check_several(net)
    least = _all_least(net)
    return tuple([lot for lot in least if not any([is_lesser(other, lot) for other in least])])


def crossing(net):
    """Return the ascending tuple of the pairs of least lots with the first place that cross."""
    least = least_lots(net)
    return tuple([(one, other) for one in least for other in least if one < other and do_cross(net, one, other)])


def least_paper(net):
    """Return a pair of a least lot and a cut tree whose least number is its cut."""
    return (least_lots(net)[0], cut_tree(net))


def is_least_paper(net, value):
    """Tell whether a value is such a pair."""
    check_several(net)
    if not isinstance(value, tuple) or len(value) != 2:
        return False
    lot, tree = value
    if not is_lot(net, lot) or not is_cut_tree(net, tree):
        return False
    return cut(net, lot) == min([triple[2] for triple in tree])


def is_lesser(one, other):
    """Tell whether a lot is within another one, and not equal."""
    return len(one) < len(other) and all([place in other for place in one])


def _all_least(net):
    table = cut_table(net)
    least = min(list(table.values()))
    return [lot for lot in table if table[lot] == least]
