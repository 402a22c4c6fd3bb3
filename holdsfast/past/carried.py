"""What is carried over to the net without a place, if its ties are led past it in a whole row."""

from holdsfast.base.nets import Net, check_several
from holdsfast.base.parts import gathered
from holdsfast.errors import InvalidOperation
from holdsfast.past.pairs import behind_row, check_at, other_numbers
from holdsfast.trees.turned import check_streets, is_streets
from holdsfast.ways.numbers import numbers
from holdsfast.ways.trees import is_tree_form, least_between


def carried_numbers(net, place):
    """Return the dict from all pairs of other places to their numbers in the net."""
    _check_beside(net, place)
    return other_numbers(net, place)


def is_carried(net, place, value):
    """Tell whether a value is a net of just the other places with these numbers."""
    _check_beside(net, place)
    if not isinstance(value, Net) or value.places != _others(net, place):
        return False
    return numbers(value) == other_numbers(net, place)


def carried_net(net, place, row):
    """Return the net behind a whole row without the place."""
    check_at(net, place)
    behind = behind_row(net, place, row)
    if behind is None:
        raise InvalidOperation("this is no whole row at the place")
    check_several(net)
    return behind.without_place(place)


def carried_tree(net, place):
    """Return triples that join the other places without a circle, and tell their numbers.

    The pairs with the greatest numbers come first: so two places that are
    joined already come from one to the other by pairs with numbers no less.
    """
    _check_beside(net, place)
    told = other_numbers(net, place)
    others = _others(net, place)
    kept = []
    for pair in sorted(list(told), key=lambda two: -told[two]):
        if len(gathered(others, kept + [pair])) < len(gathered(others, kept)):
            kept.append(pair)
    return tuple(sorted([pair + (told[pair],) for pair in kept]))


def is_carried_tree(net, place, value):
    """Tell whether a value is such triples."""
    _check_beside(net, place)
    others = _others(net, place)
    if not is_tree_form(others, value):
        return False
    told = other_numbers(net, place)
    return all([least_between(others, value, one, other) == told[(one, other)] for one, other in told])


def taken_back(net, place, row, streets):
    """Return streets of the net that come by taking streets of the carried net back."""
    many = _checked_times(net, place, row, streets)
    forth = {pair: min(many[pair], streets.get(pair, 0)) for pair in many}
    return _led_back(place, many, forth, streets)


def is_taken_back(net, place, row, streets, value):
    """Tell whether a value is such streets."""
    many = _checked_times(net, place, row, streets)
    if not is_streets(net, value):
        return False
    # The streets between two places that the value lacks have become ways by the place.
    forth = {pair: streets.get(pair, 0) - value.get(pair, 0) for pair in many}
    if not all([0 <= forth[pair] <= many[pair] for pair in many]):
        return False
    return _led_back(place, many, forth, streets) == value


def _checked_times(net, place, row, streets):
    """Check the arguments, and return the dict from the pairs of a row to how often they stand in it."""
    check_streets(carried_net(net, place, row), streets)
    return {pair: row.count(pair) for pair in row}


def _led_back(place, many, forth, streets):
    """Return the streets behind so many ways by the place for each pair, some of them forth, the others back."""
    left = {step: streets[step] for step in streets}
    for one, other in many:
        ahead = forth[(one, other)]
        _lead(left, place, one, other, ahead)
        _lead(left, place, other, one, many[(one, other)] - ahead)
    return {step: left[step] for step in sorted(list(left)) if left[step] > 0}


def _lead(left, place, one, other, many):
    """Make so many ways by the place out of the streets from the one to the other place, or of nothing if equal."""
    steps = [((one, place), many), ((place, other), many)]
    if one != other:
        steps.append(((one, other), -many))
    for step, more in steps:
        left[step] = left.get(step, 0) + more


def _others(net, place):
    return tuple([other for other in net.places if other != place])


def _check_beside(net, place):
    check_at(net, place)
    check_several(net)
