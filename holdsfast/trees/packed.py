"""Trees and forests that are packed in a net: they share no tie."""

from holdsfast.base.checks import check_number
from holdsfast.base.lots import across, across_table, is_net_forest, is_parting
from holdsfast.base.nets import check_net
from holdsfast.errors import InvalidOperation
from holdsfast.trees.forests import are_apart, are_forests, packed_forests

MAX_TREES = 60


def is_forest(net, value):
    """Tell whether a value is a forest of the net."""
    return is_net_forest(net, value)


def is_tree(net, value):
    """Tell whether a value is a tree of the net: a forest that joins all places."""
    return is_net_forest(net, value) and len(value) == len(net) - 1


def do_share(net, forests):
    """Tell whether some pair stands in more of the forests than there are ties."""
    check_net(net)
    if not are_forests(net, forests):
        raise InvalidOperation("these are no forests of the net")
    return not are_apart(forests, net.ties)


def most_trees(net):
    """Return the greatest number of trees that share no tie, None for a net of one place."""
    check_net(net)
    table = across_table(net)
    most = [table[parting] // (len(parting) - 1) for parting in table if len(parting) > 1]
    return min(most, default=None)


def trees_paper(net, many):
    """Return so many trees that share no tie, or a parting with too few ties across for them."""
    _check_net_and_many(net, many)
    forests = packed_forests(net.places, net.ties, many)
    if all([is_tree(net, forest) for forest in forests]):
        return ("trees", forests)
    return ("parting", _tightest(net, many))


def is_trees_paper(net, many, value):
    """Tell whether a value is such trees, or such a parting."""
    _check_net_and_many(net, many)
    if not isinstance(value, tuple) or len(value) != 2:
        return False
    word, told = value
    if word == "trees":
        return _are_packed(net, many, told) and all([is_tree(net, forest) for forest in told])
    if word == "parting":
        return is_parting(net, told) and across(net, told) < many * (len(told) - 1)
    return False


def most_forest_ties(net, many):
    """Return the greatest number of ties that so many forests have together, if they share no tie."""
    _check_net_and_many(net, many)
    return min(list(_room_table(net, many).values()))


def forests_paper(net, many):
    """Return a pair of so many forests that share no tie, and a parting that bars more ties of them."""
    _check_net_and_many(net, many)
    return (packed_forests(net.places, net.ties, many), _tightest(net, many))


def is_forests_paper(net, many, value):
    """Tell whether a value is such a pair."""
    _check_net_and_many(net, many)
    if not isinstance(value, tuple) or len(value) != 2:
        return False
    forests, parting = value
    if not _are_packed(net, many, forests) or not is_parting(net, parting):
        return False
    return sum([len(forest) for forest in forests]) == across(net, parting) + many * (len(net) - len(parting))


def _are_packed(net, many, value):
    """Tell whether a value is a tuple of so many forests that share no tie."""
    return are_forests(net, value) and len(value) == many and are_apart(value, net.ties)


def _room_table(net, many):
    """Return the dict from all partings to how many ties so many forests can have for them."""
    table = across_table(net)
    return {parting: table[parting] + many * (len(net) - len(parting)) for parting in table}


def _tightest(net, many):
    room = _room_table(net, many)
    return min(list(room), key=lambda parting: room[parting])


def _check_net_and_many(net, many):
    check_net(net)
    check_number(many, 1, MAX_TREES)
