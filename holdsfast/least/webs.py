"""Ring webs: all least cuts of a net at once."""

from holdsfast.base.checks import check_place
from holdsfast.base.lots import do_cross, rest
from holdsfast.base.nets import check_net
from holdsfast.base.parts import is_lot_of
from holdsfast.base.words import is_integer
from holdsfast.errors import InvalidOperation
from holdsfast.least.cuts import is_lesser, least_cut, least_lots

MAX_NODES = 20


def ring_web(net):
    """Return a ring web of the net.

    The least lots without the first place that cross no other one are nested
    in one another, and so hang in a tree. Those that cross lie each in a
    least one of the former, which then is round: its parts stand in a ring
    with what is around it, and need no links of their own.
    """
    _check_ringed(net)
    far = [rest(net, lot) for lot in least_lots(net)]
    crossed = [lot for lot in far if any([do_cross(net, lot, other) for other in far])]
    calm = [net.places] + [lot for lot in far if lot not in crossed]
    rounds = [_around(calm, lot) for lot in crossed]
    # A round lot is a node only where it is a part of another round one.
    kept = [lot for lot in calm if lot not in rounds or _around(calm, lot) in rounds]
    nodes = tuple([_own_places(calm, lot) for lot in kept])
    rings = [[kept.index(part) for part in ring] for ring in _rings_of(net, calm, rounds)]
    return (nodes, tuple([tuple(ring) for ring in rings]))


def _rings_of(net, calm, rounds):
    """Return the rings as lists of calm lots, each of which stands for a node."""
    rings = []
    for lot in calm[1:]:
        around = _around(calm, lot)
        if lot in rounds:
            rings.append([lot if around in rounds else around] + _in_round(net, lot, _parts(calm, lot)))
        elif around not in rounds:
            rings.append([around, lot])
    return rings


def _around(calm, lot):
    """Return the least of the calm lots that has a lot and more."""
    return min([other for other in calm if is_lesser(lot, other)], key=len)


def _parts(calm, lot):
    return [other for other in calm[1:] if _around(calm, other) == lot]


def _own_places(calm, lot):
    """Return the lot of the places of a calm lot that are in none of its parts."""
    return tuple([place for place in lot if not any([place in part for part in _parts(calm, lot)])])


def _in_round(net, lot, parts):
    """Return the parts of a round lot in the order in which ties lead round from its rest."""
    row = []
    last = rest(net, lot)
    while len(row) < len(parts):
        last = [part for part in parts if part not in row and _are_tied(net, last, part)][0]
        row.append(last)
    return row


def _are_tied(net, one, other):
    return any([net.tied(near, far) > 0 for near in one for far in other])


def is_ring_web(net, value):
    """Tell whether a value is a ring web of the net, with at most twenty nodes."""
    _check_ringed(net)
    if not is_web(net, value) or len(value[0]) > MAX_NODES:
        return False
    return web_lots(net, value) == least_lots(net)


def is_web(net, value):
    """Tell whether a value is a web of the net."""
    check_net(net)
    if not isinstance(value, tuple) or len(value) != 2:
        return False
    nodes, rings = value
    if not _are_nodes(net.places, nodes) or not _are_rings(len(nodes), rings):
        return False
    # As a tree of nodes and rings: joined, with one step less than there are of both.
    steps = sum([len(ring) for ring in rings])
    if steps != len(nodes) + len(rings) - 1 or len(_reached(value, 0, None)) != len(nodes):
        return False
    rings_at = _rings_at(value)
    return all([lot or len(rings_at[index]) >= 2 for index, lot in enumerate(nodes)])


def _are_nodes(places, value):
    if not isinstance(value, tuple) or not all([is_lot_of(places, lot) for lot in value]):
        return False
    return sorted([place for lot in value for place in lot]) == list(places)


def _are_rings(many, value):
    return isinstance(value, tuple) and all([_is_ring(many, ring) for ring in value])


def _is_ring(many, value):
    if not isinstance(value, tuple) or len(value) < 2:
        return False
    if not all([is_integer(index) and 0 <= index < many for index in value]):
        return False
    return len(set(value)) == len(value)


def _rings_at(web):
    """Return the list of the lists of rings that have each node."""
    nodes, rings = web
    rings_at = [[] for _ in nodes]
    for at, ring in enumerate(rings):
        for index in ring:
            rings_at[index].append(at)
    return rings_at


def _reached(web, start, left_out):
    """Return the list of the nodes that one comes to from a node without one of the rings."""
    rings = web[1]
    rings_at = _rings_at(web)
    known = {start: True}
    row = [start]
    at = 0
    while at < len(row):
        node = row[at]
        for ring in rings_at[node]:
            for index in rings[ring]:
                if ring != left_out and index not in known:
                    known[index] = True
                    row.append(index)
        at += 1
    return row


def web_lots(net, web):
    """Return the ascending tuple of the told lots that have the first place."""
    _check_web(net, web)
    nodes, rings = web
    told = []
    for at, ring in enumerate(rings):
        hung = [[place for node in _reached(web, index, at) for place in nodes[node]] for index in ring]
        # A web ends in nodes with places, so both halves always have some.
        told.extend(_arcs(net.places, hung))
    return tuple(sorted(set(told)))


def _arcs(places, hung):
    """Return the lots with the first place that fall off by two links of a ring; `hung` are the places at its nodes."""
    rows = []
    for first in range(len(hung)):
        for last in range(first + 1, len(hung)):
            arc = [place for row in hung[first + 1:last + 1] for place in row]
            with_first = places[0] in arc
            rows.append(tuple([place for place in places if (place in arc) == with_first]))
    return rows


def web_leaves(net, web):
    """Return the ascending tuple of the lots, not empty, of the nodes that are in one ring alone."""
    _check_web(net, web)
    rings_at = _rings_at(web)
    # A web has no node without places in one ring alone.
    return tuple(sorted([lot for index, lot in enumerate(web[0]) if len(rings_at[index]) == 1]))


def node_of(net, web, place):
    """Return the index of the node with a place."""
    _check_web(net, web)
    check_place(net.places, place)
    return [index for index, lot in enumerate(web[0]) if place in lot][0]


def _check_web(net, web):
    if not is_web(net, web):
        raise InvalidOperation("this is no web of the net")


def _check_ringed(net):
    if least_cut(net) == 0:
        raise InvalidOperation("a net in pieces has no ring web")
