"""Checks of arguments that many functions share, each with the error that it raises."""

from holdsfast.base.words import is_integer
from holdsfast.errors import InvalidNumber, InvalidOperation, NothingToUndo, UnknownPlace


def check_place(places, place):
    """Refuse what is none of the places."""
    if not isinstance(place, str) or place not in places:
        raise UnknownPlace(place)


def check_two(places, one, other):
    """Refuse what are not two different ones of the places."""
    check_place(places, one)
    check_place(places, other)
    if one == other:
        raise InvalidOperation("both places are equal")


def check_many(many):
    """Refuse what is no integer of at least 1."""
    if not is_integer(many) or many < 1:
        raise InvalidNumber(many)


def check_number(many, least, most):
    """Refuse what is no integer between two bounds, which are let."""
    if not is_integer(many) or not least <= many <= most:
        raise InvalidNumber(many)


def check_steps(many, most):
    """Refuse what is no integer of at least 0, and more steps than there are."""
    if not is_integer(many) or many < 0:
        raise InvalidNumber(many)
    if many > most:
        raise NothingToUndo(many)
