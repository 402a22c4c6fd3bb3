"""The crowding of a net, and the lots that have most ties inside for their places."""

from holdsfast.base.lots import inside, inside_table
from holdsfast.base.nets import check_net, check_several
from holdsfast.base.parts import is_across, is_lot_of
from holdsfast.base.words import fraction, greatest
from holdsfast.least.cuts import is_lesser
from holdsfast.part.strength import chain, critical_levels
from holdsfast.trees.forests import are_forests, packed_forests, so_often, times_used


def crowding(net):
    """Return the greatest fraction of ties inside a lot by its places less 1, None for a net of one place."""
    check_net(net)
    if len(net) == 1:
        return None
    fractions = list(_fractions(net).values())
    return greatest(*fractions)


def crowded_lots(net):
    """Return the ascending tuple of all lots with this fraction."""
    check_several(net)
    fractions = _fractions(net)
    most = crowding(net)
    return tuple([lot for lot in fractions if fractions[lot] == most])


def greatest_crowds(net):
    """Return the ascending tuple of the crowded lots that are in no greater one."""
    crowded = crowded_lots(net)
    return tuple([lot for lot in crowded if not any([is_lesser(lot, other) for other in crowded])])


def _fractions(net):
    """Return the dict from the lots of two places or more to their ties inside by their places less 1."""
    table = inside_table(net)
    return {lot: fraction(table[lot], len(lot) - 1) for lot in table if len(lot) > 1}


def crowding_paper(net):
    """Return a pair of a crowded lot with the fraction (p, q), and p forests with each tie just q times."""
    check_several(net)
    many, times = crowding(net)
    return (crowded_lots(net)[0], packed_forests(net.places, so_often(net.ties, times), many))


def is_crowding_paper(net, value):
    """Tell whether a value is such a pair."""
    check_several(net)
    if not isinstance(value, tuple) or len(value) != 2:
        return False
    lot, forests = value
    if not is_lot_of(net.places, lot) or len(lot) < 2 or not are_forests(net, forests):
        return False
    many, times = fraction(inside(net, lot), len(lot) - 1)
    # So many forests have room for no more ties inside any lot, so this one is crowded.
    return len(forests) == many and times_used(forests) == so_often(net.ties, times)


def layers(net):
    """Return the dict from the tied pairs to fractions.

    This is the greatest critical level at which both places are in one part
    of the coarsest least parting.
    """
    found = {}
    # The coarsest least parting at a critical level is the finest one at the level ahead of it.
    for level, parting in zip(critical_levels(net), chain(net)):
        for pair in net.ties:
            if not is_across(parting, pair):
                found[pair] = level
    return {pair: found[pair] for pair in net.ties}
