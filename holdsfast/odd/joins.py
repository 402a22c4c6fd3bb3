"""Joins for chosen places, and the odd rows that bar lesser ones."""

from holdsfast.base.nets import check_net
from holdsfast.base.parts import gathered, is_lot_of
from holdsfast.base.words import is_integer
from holdsfast.errors import InvalidOperation, Refused


def join_number(net, chosen):
    """Return the number of ties of a least join."""
    _check_joined(net, chosen)
    return len(_least_joins(net)[chosen])


def least_join(net, chosen):
    """Return a join with as few ties as any."""
    _check_joined(net, chosen)
    return {pair: 1 for pair in sorted(_least_joins(net)[chosen])}


def _least_joins(net):
    """Return the dict from all chosen places that have joins to the pairs of the ties of a least one.

    One tie more changes for both its places whether they have an odd number.
    So the least joins are found from the empty one on, by one tie more again
    and again, and each is found first with as few as can be.
    """
    found = {(): ()}
    queue = [()]
    at = 0
    while at < len(queue):
        for pair in net.ties:
            chosen = _unlike(net.places, queue[at], pair)
            if chosen not in found:
                found[chosen] = found[queue[at]] + (pair,)
                queue.append(chosen)
        at += 1
    return found


def _unlike(places, one, other):
    """Return the lot of the places that are in one of two tuples alone."""
    return tuple([place for place in places if (place in one) != (place in other)])


def is_join(net, chosen, value):
    """Tell whether a value is a join for the chosen places."""
    _check_joined(net, chosen)
    return _is_join_for(net, chosen, value)


def _is_join_for(net, chosen, value):
    ties = net.ties
    if not isinstance(value, dict) or not all([pair in ties and is_integer(value[pair]) for pair in value]):
        return False
    if not all([1 <= value[pair] <= ties[pair] for pair in value]):
        return False
    many = {place: sum([value[pair] for pair in value if place in pair]) for place in net.places}
    return tuple([place for place in net.places if many[place] % 2 == 1]) == chosen


def is_odd_row(net, chosen, value):
    """Tell whether a value is an odd row for the chosen places."""
    _check_joined(net, chosen)
    if not isinstance(value, tuple) or not all([is_odd_lot(net, chosen, lot) for lot in value]):
        return False
    if list(value) != sorted(value):
        return False
    left_by = [len([lot for lot in value if (one in lot) != (other in lot)]) for one, other in net.ties]
    return all([many <= 2 for many in left_by])


def is_odd_lot(net, chosen, value):
    """Tell whether a value is a lot that has an odd number of the chosen places."""
    return is_lot_of(net.places, value) and len([place for place in value if place in chosen]) % 2 == 1


def join_paper(net, chosen):
    """Return a pair of a join, and an odd row with twice as many lots as the join has ties."""
    return (least_join(net, chosen), _long_row(net, chosen))


def _long_row(net, chosen):
    """Return an odd row with twice as many lots as a least join has ties.

    The level of a place tells how many ties more a least join has, or less,
    if the place and the root of its piece change whether they are chosen.
    This is Sebo's way: if each tie has a place of its own in its middle, half
    a level above its lower end, then each part of all places up to a level
    that lacks the root is left by one half of a tie of each least join, and no
    half of a tie leaves two of these parts.
    """
    joins = _least_joins(net)
    rows = []
    for piece in net.pieces:
        root = piece[0]
        levels = {place: len(joins[_changed(net, chosen, root, place)]) for place in piece}
        for level in sorted(set(list(levels.values()))):
            # Up to the level itself no middle of a tie between two places of it is there; half a level above it is.
            for lower in (level - 1, level):
                rows.extend([part for part in _parts_up_to(net, levels, level, lower) if root not in part])
    return tuple(sorted(rows))


def _changed(net, chosen, root, place):
    return _unlike(net.places, chosen, _unlike(net.places, (root,), (place,)))


def _parts_up_to(net, levels, level, lower):
    """Return the parts of the places up to a level, along ties with an end up to a lower one."""
    places = [place for place in levels if levels[place] <= level]
    pairs = [pair for pair in net.ties if pair[0] in places and pair[1] in places]
    return gathered(places, [pair for pair in pairs if min([levels[place] for place in pair]) <= lower])


def is_join_paper(net, chosen, value):
    """Tell whether a value is such a pair."""
    _check_joined(net, chosen)
    if not isinstance(value, tuple) or len(value) != 2:
        return False
    join, row = value
    if not _is_join_for(net, chosen, join) or not is_odd_row(net, chosen, row):
        return False
    return len(row) == 2 * sum(list(join.values()))


def both_joins(net, chosen, join, second):
    """Return the dict of the pairs of whose ties two joins have together an odd number, each with 1."""
    check_net(net)
    if not isinstance(chosen, tuple) or len(chosen) != 2 or not all([is_lot_of(net.places, lot) for lot in chosen]):
        raise InvalidOperation("these are no two tuples of chosen places")
    if not _is_join_for(net, chosen[0], join) or not _is_join_for(net, chosen[1], second):
        raise InvalidOperation("this is no join for the chosen places")
    return {pair: 1 for pair in net.ties if (join.get(pair, 0) + second.get(pair, 0)) % 2 == 1}


def check_chosen(net, chosen):
    """Refuse what is no net, and what are no chosen places of it."""
    check_net(net)
    if not is_lot_of(net.places, chosen):
        raise InvalidOperation("these are no chosen places of the net")


def _check_joined(net, chosen):
    check_chosen(net, chosen)
    for piece in net.pieces:
        if is_odd_lot(net, chosen, piece):
            raise Refused(piece)
