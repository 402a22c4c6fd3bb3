"""Streets: ways along them, streets that lead into each lot, and even streets."""

from holdsfast.base.checks import check_many, check_two
from holdsfast.base.lots import cut, inside, is_lot, lots
from holdsfast.base.nets import check_net, check_several
from holdsfast.base.parts import all_lots
from holdsfast.errors import Refused
from holdsfast.least.cuts import least_cut, least_lots
from holdsfast.trees.turned import check_streets, entering_lot, is_streets, told_paper
from holdsfast.ways.flows import ways_through
from holdsfast.ways.numbers import is_row_between


def one_way_number(net, streets, one, other):
    """Return the greatest number of ways of a one-way family from the one to the other place."""
    _check_ends(net, streets, one, other)
    return min(list(_entering_between(net, streets, one, other).values()))


def one_way_paper(net, streets, one, other):
    """Return a pair of a one-way family, and a lot that is entered by as many streets as there are ways."""
    _check_ends(net, streets, one, other)
    table = _entering_between(net, streets, one, other)
    return (ways_through(net.places, streets, one, other), min(list(table), key=lambda lot: table[lot]))


def _entering_between(net, streets, one, other):
    """Return the dict from the lots with the other place and without the one to how many streets enter them."""
    return {lot: entering_lot(streets, lot) for lot in lots(net) if one not in lot and other in lot}


def is_one_way_paper(net, streets, one, other, value):
    """Tell whether a value is such a pair."""
    _check_ends(net, streets, one, other)
    if not isinstance(value, tuple) or len(value) != 2:
        return False
    ways, lot = value
    if not _is_one_way_family(net, streets, one, other, ways) or not is_lot(net, lot):
        return False
    return one not in lot and other in lot and entering_lot(streets, lot) == len(ways)


def _is_one_way_family(net, streets, one, other, value):
    if not isinstance(value, tuple) or not all([is_row_between(net, one, other, way) for way in value]):
        return False
    used = {}
    for way in value:
        for step in zip(way, way[1:]):
            used[step] = used.get(step, 0) + 1
    return all([used[step] <= streets.get(step, 0) for step in used])


def _check_ends(net, streets, one, other):
    check_streets(net, streets)
    check_two(net.places, one, other)


def least_entering(net, streets):
    """Return the least number of streets that enter a lot that counts."""
    check_streets(net, streets)
    check_several(net)
    return min([entering_lot(streets, lot) for lot in lots(net)])


def most_folds(net):
    """Return how many streets can enter each lot that counts at least, None for a net of one place."""
    check_net(net)
    if len(net) == 1:
        return None
    return least_cut(net) // 2


def folds_paper(net, many):
    """Return streets that enter each lot that counts so many times, or a lot whose cut is too small for them.

    Nash-Williams found that the ties can be turned so that half of each
    least cut, rounded down, leads either way, and that at each place as many
    streets come in as go out, or one more or less. So it is enough to try at
    which half of the odd places one more comes in.
    """
    _check_net_and_many(net, many)
    if len(net) > 1 and least_cut(net) < 2 * many:
        return ("lot", least_lots(net)[0])
    rows = [_halved(net, more) for more in all_lots(net.odd) if 2 * len(more) == len(net.odd)]
    held = {lot: inside(net, lot) for lot in lots(net)}
    return ("streets", _just(net, [told for told in rows if _is_room(held, told, many)][0]))


def _halved(net, more):
    """Return the dict from the places to half of their ties, rounded up at some of them and down at the others."""
    degrees = net.degrees
    return {place: (degrees[place] + (1 if place in more else 0)) // 2 for place in net.places}


def _is_room(held, told, many):
    """Tell whether so many streets more are told for each lot than there are ties inside it."""
    return all([sum([told[place] for place in lot]) >= held[lot] + many for lot in held])


def _just(net, told):
    """Return streets of which just so many come in at each place as told."""
    return told_paper(net, told, just=True)[1]


def _do_enter(net, streets, many):
    return all([entering_lot(streets, lot) >= many for lot in lots(net)])


def is_folds_paper(net, many, value):
    """Tell whether a value is such streets, or such a lot."""
    _check_net_and_many(net, many)
    if not isinstance(value, tuple) or len(value) != 2:
        return False
    word, told = value
    if word == "streets":
        return is_streets(net, told) and _do_enter(net, told, many)
    if word == "lot":
        return is_lot(net, told) and cut(net, told) < 2 * many
    return False


def _check_net_and_many(net, many):
    check_net(net)
    check_many(many)


def even_streets(net):
    """Return streets of which at each place as many come in as go out."""
    check_net(net)
    if net.odd:
        raise Refused(net.odd)
    return _just(net, _halved(net, ()))


def turned_about(net, streets):
    """Return the streets with all of them turned."""
    check_streets(net, streets)
    turned = {(other, one): streets[(one, other)] for one, other in streets}
    return {step: turned[step] for step in sorted(list(turned))}
