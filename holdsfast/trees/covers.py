"""Covers: forests that have all ties of a net, and the crowds of ties that bar them."""

from holdsfast.base.checks import check_number
from holdsfast.base.lots import inside, inside_table
from holdsfast.base.nets import check_net
from holdsfast.base.parts import is_lot_of
from holdsfast.trees.forests import are_forests, packed_forests, times_used
from holdsfast.trees.packed import MAX_TREES


def fewest_forests(net):
    """Return the least number of forests of a cover, 0 for a net without ties."""
    check_net(net)
    table = inside_table(net)
    # Halves and the like are rounded up.
    return max([-(-table[lot] // (len(lot) - 1)) for lot in table if len(lot) > 1], default=0)


def cover_paper(net, many):
    """Return a cover of so many forests, or a crowd for so many."""
    crowds = crowds_for(net, many)
    if crowds:
        return ("crowd", crowds[0])
    return ("cover", packed_forests(net.places, net.ties, many))


def is_cover_paper(net, many, value):
    """Tell whether a value is such a cover, or such a crowd."""
    _check_net_and_many(net, many)
    if not isinstance(value, tuple) or len(value) != 2:
        return False
    word, told = value
    if word == "cover":
        return is_cover(net, told) and len(told) == many
    if word == "crowd":
        return is_lot_of(net.places, told) and len(told) > 0 and inside(net, told) > many * (len(told) - 1)
    return False


def is_cover(net, value):
    """Tell whether a value is a cover: forests in which each pair stands just as often as there are ties."""
    check_net(net)
    return are_forests(net, value) and times_used(value) == net.ties


def crowds_for(net, many):
    """Return the ascending tuple of all crowds for so many forests."""
    _check_net_and_many(net, many)
    table = inside_table(net)
    return tuple([lot for lot in table if table[lot] > many * (len(lot) - 1)])


def _check_net_and_many(net, many):
    check_net(net)
    check_number(many, 0, MAX_TREES)
