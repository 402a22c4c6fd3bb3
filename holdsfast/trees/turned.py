"""Ties that are turned, and told numbers of how many may come in at each place."""

from holdsfast.base.checks import check_two
from holdsfast.base.lots import check_lot, inside, inside_table
from holdsfast.base.nets import check_net
from holdsfast.base.parts import is_lot_of, pair_of
from holdsfast.base.words import is_integer
from holdsfast.errors import InvalidOperation, Refused
from holdsfast.ways.flows import reached, turn_way

MAX_TOLD = 60


def is_streets(net, value):
    """Tell whether a value is streets of the net: each tie is turned one of both ways."""
    check_net(net)
    if not isinstance(value, dict) or not all([_is_step(net, step) for step in value]):
        return False
    if not all([is_integer(value[step]) and value[step] >= 1 for step in value]):
        return False
    turned = {}
    for one, other in value:
        pair = pair_of(one, other)
        turned[pair] = turned.get(pair, 0) + value[(one, other)]
    return turned == net.ties


def _is_step(net, value):
    """Tell whether a value is a tuple of two different places, in either order."""
    if not isinstance(value, tuple) or len(value) != 2:
        return False
    return value[0] in net and value[1] in net and value[0] != value[1]


def check_streets(net, streets):
    """Refuse what is no net, and what are no streets of it."""
    if not is_streets(net, streets):
        raise InvalidOperation("these are no streets of the net")


def coming_in(net, streets):
    """Return the dict from the places to how many streets come in."""
    check_streets(net, streets)
    return _coming(net, streets)


def _coming(net, streets):
    return {place: sum([streets[step] for step in streets if step[1] == place]) for place in net.places}


def entering(net, streets, lot):
    """Return how many streets enter a lot."""
    check_streets(net, streets)
    check_lot(net, lot)
    return entering_lot(streets, lot)


def entering_lot(streets, lot):
    """Return how many of streets that have been checked lead into a lot."""
    return sum([streets[(one, other)] for one, other in streets if one not in lot and other in lot])


def told_paper(net, told, *, just=False):
    """Return streets that fit, a lot with more ties inside than told, or with `just` that too many are told."""
    _check_told(net, told, just)
    if just and sum(list(told.values())) > net.size:
        return ("spare",)
    # At first each tie leads to the latter one of its places.
    streets = net.ties
    full = _over(net, told, streets)
    while full:
        # No street leads from elsewhere to the places from which one comes to this one.
        behind = tuple([place for place in net.places if full[0] in reached(net.places, streets, place)])
        coming = _coming(net, streets)
        spare = [place for place in behind if coming[place] < told[place]]
        if not spare:
            return ("crowd", behind)
        turn_way(streets, reached(net.places, streets, spare[0]), full[0])
        full = _over(net, told, streets)
    return ("streets", _tidy(streets))


def _over(net, told, streets):
    """Return the list of the places at which more streets come in than told."""
    coming = _coming(net, streets)
    return [place for place in net.places if coming[place] > told[place]]


def _tidy(streets):
    return {step: streets[step] for step in sorted(list(streets)) if streets[step] > 0}


def is_told_paper(net, told, value, *, just=False):
    """Tell whether a value is one of these."""
    _check_told(net, told, just)
    if value == ("spare",):
        return just and sum(list(told.values())) > net.size
    if not isinstance(value, tuple) or len(value) != 2:
        return False
    word, shown = value
    if word == "streets":
        return is_streets(net, shown) and _do_fit(_coming(net, shown), told, just)
    if word == "crowd":
        return is_lot_of(net.places, shown) and inside(net, shown) > sum([told[place] for place in shown])
    return False


def _do_fit(coming, told, just):
    if just:
        return coming == told
    return all([coming[place] <= told[place] for place in coming])


def least_in(net):
    """Return the least number that can be told for each place alike so that streets fit."""
    check_net(net)
    table = inside_table(net)
    # Halves and the like are rounded up.
    return max([-(-table[lot] // len(lot)) for lot in table])


def reversed_way(net, streets, one, other):
    """Return the streets in which those of a way from the one place to the other are turned."""
    check_streets(net, streets)
    check_two(net.places, one, other)
    turned = {step: streets[step] for step in streets}
    ahead = reached(net.places, turned, one)
    if other not in ahead:
        raise Refused((one, other))
    turn_way(turned, ahead, other)
    return _tidy(turned)


def _check_told(net, told, just):
    check_net(net)
    if not _are_told(net, told):
        raise InvalidOperation("these are no told numbers")
    if not isinstance(just, bool):
        raise InvalidOperation("this is neither True nor False")


def _are_told(net, value):
    if not isinstance(value, dict) or len(value) != len(net):
        return False
    if not all([place in value and is_integer(value[place]) for place in net.places]):
        return False
    return all([0 <= value[place] <= MAX_TOLD for place in net.places])
