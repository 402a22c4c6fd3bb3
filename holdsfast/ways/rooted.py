"""Rooted trees along streets: each place has one place ahead of it, on the way to the root."""

from holdsfast.base.checks import check_place
from holdsfast.base.lots import is_lot, lots
from holdsfast.base.parts import gathered
from holdsfast.errors import InvalidOperation
from holdsfast.trees.turned import check_streets, entering_lot

MAX_ROOTS = 30


def is_rooted_tree(net, streets, root, value):
    """Tell whether a value is a rooted tree from the root."""
    _check_root(net, streets, root)
    return _is_tree_from(net, streets, root, value)


def _is_tree_from(net, streets, root, value):
    others = [place for place in net.places if place != root]
    if not isinstance(value, dict) or len(value) != len(others):
        return False
    if not all([place in value and value[place] in net for place in others]):
        return False
    steps = _steps(value)
    # Each of the others has one place ahead: if they all hang together, none goes round in a circle.
    return all([step in streets for step in steps]) and len(gathered(net.places, steps)) == 1


def _steps(tree):
    """Return the list of the streets of a tree, each once."""
    return [(tree[place], place) for place in tree]


def most_rooted(net, streets, root):
    """Return the greatest number of rooted trees that share no street, None for a net of one place."""
    _check_root(net, streets, root)
    return min([entering_lot(streets, lot) for lot in lots(net) if root not in lot], default=None)


def rooted_paper(net, streets, roots):
    """Return rooted trees that share no street, one from each root, or a lot that is entered too seldom for them."""
    _check_roots(net, streets, roots)
    for lot in lots(net):
        if _is_short(streets, roots, lot):
            return ("lot", lot)
    return ("trees", _grown(net, streets, roots))


def _is_short(streets, roots, lot):
    """Tell whether fewer streets enter a lot than there are roots outside it."""
    return entering_lot(streets, lot) < len([root for root in roots if root not in lot])


def _grown(net, streets, roots):
    """Return the tuple of the rooted trees from the roots, which grow by one street after another.

    This is Lovasz's way: as long as each lot is entered by as many of the
    streets left as there are trees outside it, some street can be taken for
    the next tree such that this stays so. So no step has to be taken back.
    """
    left = {step: streets[step] for step in streets}
    trees = [{} for _ in roots]
    for at in range(len(roots)):
        while len(trees[at]) < len(net) - 1:
            near, far = _next_step(net, left, roots, trees, at)
            left[(near, far)] -= 1
            trees[at][far] = near
    return tuple([{place: tree[place] for place in sorted(list(tree))} for tree in trees])


def _next_step(net, left, roots, trees, at):
    """Return a street from the places of a tree to another one that can be taken."""
    held = [(root, *list(tree)) for root, tree in zip(roots, trees)]
    barred = [lot for lot in lots(net) if _do_meet(held[at], lot) and not _is_spare(left, held, lot)]
    steps = [step for step in sorted(list(left)) if left[step] > 0 and step[0] in held[at] and step[1] not in held[at]]
    return [(near, far) for near, far in steps if not any([near not in lot and far in lot for lot in barred])][0]


def _is_spare(left, held, lot):
    """Tell whether more of the streets left enter a lot than there are trees outside it."""
    return entering_lot(left, lot) > len([places for places in held if not _do_meet(places, lot)])


def _do_meet(places, lot):
    return any([place in lot for place in places])


def is_rooted_paper(net, streets, roots, value):
    """Tell whether a value is such trees, or such a lot."""
    _check_roots(net, streets, roots)
    if not isinstance(value, tuple) or len(value) != 2:
        return False
    word, told = value
    if word == "trees":
        return _are_trees_from(net, streets, roots, told)
    if word == "lot":
        return is_lot(net, told) and _is_short(streets, roots, told)
    return False


def _are_trees_from(net, streets, roots, value):
    """Tell whether a value is a tuple of rooted trees from the roots that share no street."""
    if not isinstance(value, tuple) or len(value) != len(roots):
        return False
    if not all([_is_tree_from(net, streets, root, tree) for root, tree in zip(roots, value)]):
        return False
    used = {}
    for tree in value:
        for step in _steps(tree):
            used[step] = used.get(step, 0) + 1
    return all([used[step] <= streets[step] for step in used])


def depths(net, streets, root, tree):
    """Return the dict from all places to how many steps it takes to come from them to the root."""
    _check_root(net, streets, root)
    if not _is_tree_from(net, streets, root, tree):
        raise InvalidOperation("this is no rooted tree from the root")
    return {place: _depth(tree, place) for place in net.places}


def _depth(tree, place):
    steps = 0
    while place in tree:
        place = tree[place]
        steps += 1
    return steps


def _check_root(net, streets, root):
    check_streets(net, streets)
    check_place(net.places, root)


def _check_roots(net, streets, roots):
    check_streets(net, streets)
    if not isinstance(roots, tuple) or len(roots) > MAX_ROOTS:
        raise InvalidOperation("the roots are a tuple of at most thirty places")
    for root in roots:
        check_place(net.places, root)
