"""The fewest new ties behind which there are so many trees that share no tie."""

from holdsfast.base.checks import check_number
from holdsfast.base.lots import across, across_counts, is_parting
from holdsfast.base.nets import check_net
from holdsfast.base.parts import are_new_ties, is_across, is_forest_of
from holdsfast.trees.forests import are_apart, packed_forests

MAX_MANY = 10
MAX_FILLING = 100


def lack(net, many):
    """Return the greatest lack of a parting, at least 0."""
    return max(list(_lacks(net, many, ()).values()))


def _lacks(net, many, ties):
    """Return the dict from all partings to their lacks behind some new ties."""
    _check_net_and_many(net, many)
    table = across_counts(net.places, _with_new(net, ties))
    return {parting: many * (len(parting) - 1) - table[parting] for parting in table}


def _with_new(net, ties):
    """Return the dict from pairs to the numbers of ties, the new ones among them."""
    # There can be more ties in all than a net has, so no net is made.
    held = net.ties
    for pair in ties:
        held[pair] = held.get(pair, 0) + 1
    return held


def worst_partings(net, many):
    """Return the ascending tuple of all partings with the lack of the net."""
    lacks = _lacks(net, many, ())
    most = max(list(lacks.values()))
    return tuple([parting for parting in lacks if lacks[parting] == most])


def coarsest_worst(net, many):
    """Return the coarsest worst parting, None if the lack is 0."""
    return _coarsest(_lacks(net, many, ()))


def _coarsest(lacks):
    """Return the coarsest of the partings with the greatest lack, None if that is 0."""
    most = max(list(lacks.values()))
    if most == 0:
        return None
    return min([parting for parting in lacks if lacks[parting] == most], key=len)


def needed_pairs(net, many):
    """Return the ascending tuple of the pairs of which one new tie makes the lack less."""
    worst = coarsest_worst(net, many)
    if worst is None:
        return ()
    return tuple([pair for pair in net.pairs if is_across(worst, pair)])


def filling(net, many):
    """Return as few new ties as any behind which there are so many trees.

    Each new tie across the coarsest worst parting makes the lack less by one.
    """
    ties = []
    worst = coarsest_worst(net, many)
    while worst is not None:
        ties.append((worst[0][0], worst[1][0]))
        worst = _coarsest(_lacks(net, many, ties))
    return tuple(sorted(ties))


def is_filling(net, many, value):
    """Tell whether a value is at most a hundred new ties behind which there are so many trees."""
    _check_net_and_many(net, many)
    if not are_new_ties(net.places, value) or len(value) > MAX_FILLING:
        return False
    return max(list(_lacks(net, many, value).values())) == 0


def filling_paper(net, many):
    """Return a triple of new ties, the trees that there are behind them, and a parting that lacks so many."""
    ties = filling(net, many)
    trees = packed_forests(net.places, _with_new(net, ties), many)
    return (ties, trees, worst_partings(net, many)[-1])


def is_filling_paper(net, many, value):
    """Tell whether a value is such a triple."""
    _check_net_and_many(net, many)
    if not isinstance(value, tuple) or len(value) != 3:
        return False
    ties, trees, parting = value
    if not are_new_ties(net.places, ties) or not is_parting(net, parting):
        return False
    if len(ties) != many * (len(parting) - 1) - across(net, parting):
        return False
    return _are_trees(net.places, _with_new(net, ties), many, trees)


def _are_trees(places, ties, many, value):
    """Tell whether a value is a tuple of so many trees that share no tie."""
    if not isinstance(value, tuple) or len(value) != many:
        return False
    if not all([is_forest_of(places, ties, tree) and len(tree) == len(places) - 1 for tree in value]):
        return False
    return are_apart(value, ties)


def _check_net_and_many(net, many):
    check_net(net)
    check_number(many, 1, MAX_MANY)
