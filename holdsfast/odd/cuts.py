"""Odd cuts of chosen places, and tours over all ties."""

from holdsfast.base.lots import cut, cut_table
from holdsfast.base.nets import check_net
from holdsfast.base.parts import all_pairings, is_ascending, is_pair_of, pair_of
from holdsfast.errors import InvalidOperation
from holdsfast.odd.joins import check_chosen, is_odd_lot, is_odd_row, join_number, join_paper, least_join
from holdsfast.ways.numbers import numbers


def odd_cut(net, chosen):
    """Return the least cut of an odd lot."""
    return min(list(_odd_cuts(net, chosen).values()))


def odd_lots(net, chosen):
    """Return the ascending tuple of the odd lots with the least cut."""
    cuts = _odd_cuts(net, chosen)
    least = min(list(cuts.values()))
    return tuple([lot for lot in cuts if cuts[lot] == least])


def _odd_cuts(net, chosen):
    """Return the dict from the odd lots to their cuts."""
    _check_even(net, chosen)
    table = cut_table(net)
    return {lot: table[lot] for lot in table if is_odd_lot(net, chosen, lot)}


def odd_paper(net, chosen):
    """Return a pair of an odd lot and a pairing whose least number is the cut of the lot."""
    lot = odd_lots(net, chosen)[0]
    told = numbers(net)
    return (lot, max(all_pairings(chosen), key=lambda pairing: min([told[pair] for pair in pairing])))


def is_odd_paper(net, chosen, value):
    """Tell whether a value is such a pair."""
    _check_even(net, chosen)
    if not isinstance(value, tuple) or len(value) != 2:
        return False
    lot, pairing = value
    if not is_odd_lot(net, chosen, lot) or not _is_pairing(chosen, pairing):
        return False
    told = numbers(net)
    return cut(net, lot) == min([told[pair] for pair in pairing])


def _is_pairing(chosen, value):
    if not isinstance(value, tuple) or not all([is_pair_of(chosen, pair) for pair in value]):
        return False
    return is_ascending(value) and sorted([place for pair in value for place in pair]) == list(chosen)


def _check_even(net, chosen):
    check_chosen(net, chosen)
    if not chosen or len(chosen) % 2 == 1:
        raise InvalidOperation("there are no chosen places, or an odd number of them")


def tour_length(net):
    """Return the number of steps of a shortest tour."""
    _check_toured(net)
    return net.size + join_number(net, net.odd)


def shortest_tour(net):
    """Return a tour with as few steps as any.

    With the ties of a least join gone twice each place has an even number of
    them. So one goes on along ties until one is back, and from each place of
    the way back where ties are left, round by them.
    """
    _check_toured(net)
    left = net.ties
    for pair in least_join(net, net.odd):
        left[pair] += 1
    tour = []
    way = [_start(net)]
    while way:
        near = [place for place in net.places if left.get(pair_of(way[-1], place), 0) > 0]
        if near:
            left[pair_of(way[-1], near[0])] -= 1
            way.append(near[0])
        else:
            tour.append(way.pop())
    return tuple(tour)


def is_tour(net, value):
    """Tell whether a value is a tour."""
    check_net(net)
    if not isinstance(value, tuple) or not value or not all([place in net for place in value]):
        return False
    steps = {}
    for one, other in zip(value, value[1:]):
        pair = pair_of(one, other)
        steps[pair] = steps.get(pair, 0) + 1
    ties = net.ties
    if not all([pair in ties for pair in steps]) or not all([steps.get(pair, 0) >= ties[pair] for pair in ties]):
        return False
    return value[0] == _start(net) and value[-1] == _start(net)


def tour_paper(net):
    """Return a pair of a tour, and an odd row that bars a shorter one."""
    return (shortest_tour(net), join_paper(net, net.odd)[1])


def is_tour_paper(net, value):
    """Tell whether a value is such a pair."""
    _check_toured(net)
    if not isinstance(value, tuple) or len(value) != 2:
        return False
    tour, row = value
    if not is_tour(net, tour) or not is_odd_row(net, net.odd, row):
        return False
    return 2 * (len(tour) - 1) == 2 * net.size + len(row)


def _start(net):
    """Return the first place that has a tie, or in a net without ties the first one."""
    return min(list(net.ties), default=net.places[:1])[0]


def _check_toured(net):
    check_net(net)
    if len([piece for piece in net.pieces if len(piece) > 1]) > 1:
        raise InvalidOperation("the ties do not hang together")
