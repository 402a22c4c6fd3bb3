"""Trees of cuts: one tree that tells the numbers of all pairs."""

from holdsfast.base.checks import check_two
from holdsfast.base.lots import cut
from holdsfast.base.nets import check_net
from holdsfast.base.parts import gathered, is_ascending, is_pair_of, pair_of
from holdsfast.base.words import is_integer
from holdsfast.errors import InvalidNumber, InvalidOperation
from holdsfast.ways.numbers import least_lot, numbers


def cut_tree(net):
    """Return a cut tree of the net."""
    check_net(net)
    heads = {place: net.places[0] for place in net.places[1:]}
    cuts = {}
    for place in net.places[1:]:
        _hang(net, heads, cuts, place)
    return tuple(sorted([pair_of(place, heads[place]) + (cuts[place],) for place in cuts]))


def _hang(net, heads, cuts, place):
    """Part a place from its head by a least cut, and hang those on its side from it.

    This is Gusfield's way to a cut tree: at first all places hang from the
    first one, and no net has to be shrunk.
    """
    head = heads[place]
    lot = least_lot(net, place, head)
    cuts[place] = cut(net, lot)
    for other in lot:
        if other != place and heads.get(other) == head:
            heads[other] = place
    if heads.get(head) in lot:
        heads[place], heads[head] = heads[head], place
        cuts[place], cuts[head] = cuts[head], cuts[place]


def is_cut_tree(net, value):
    """Tell whether a value is a cut tree of the net."""
    check_net(net)
    if not is_tree_form(net.places, value):
        return False
    told = numbers(net)
    for index, (one, other, many) in enumerate(value):
        if many != told[(one, other)] or many != cut(net, _half(net.places, value, index)):
            return False
    return True


def is_tree_form(places, value):
    """Tell whether a value is an ascending tuple of triples that join the places without a circle."""
    if not isinstance(value, tuple) or len(value) != len(places) - 1:
        return False
    if not all([_is_triple(places, triple) for triple in value]) or not is_ascending(value):
        return False
    return len(gathered(places, [triple[:2] for triple in value])) == 1


def _is_triple(places, value):
    if not isinstance(value, tuple) or len(value) != 3:
        return False
    return is_pair_of(places, value[:2]) and is_integer(value[2])


def _half(places, tree, index):
    """Return the lot with the first place of a triple that arises if the triple is left out."""
    kept = [triple[:2] for triple in tree[:index] + tree[index + 1:]]
    return [part for part in gathered(places, kept) if tree[index][0] in part][0]


def tree_number(net, tree, one, other):
    """Return the least number of the triples between two places."""
    _check_tree(net, tree)
    check_two(net.places, one, other)
    return least_between(net.places, tree, one, other)


def least_between(places, tree, one, other):
    """Return the least number of the triples between two different places in a tree of such triples."""
    halves = [_half(places, tree, index) for index in range(len(tree))]
    return min([triple[2] for triple, lot in zip(tree, halves) if (one in lot) != (other in lot)])


def tree_lot(net, tree, index):
    """Return the lot with the first place of the triple with this index that arises if it is left out."""
    _check_tree(net, tree)
    if not is_integer(index) or not 0 <= index < len(tree):
        raise InvalidNumber(index)
    return _half(net.places, tree, index)


def _check_tree(net, tree):
    if not is_cut_tree(net, tree):
        raise InvalidOperation("this is no cut tree of the net")
