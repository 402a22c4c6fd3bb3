"""Nets: places, and ties between them."""

from holdsfast.base.checks import check_many, check_place, check_two
from holdsfast.base.parts import gathered, is_lot_of, is_pair_of, pair_of, pairs_of
from holdsfast.base.words import is_integer, is_place
from holdsfast.errors import InvalidLot, InvalidNet, InvalidNumber, InvalidOperation

MAX_PLACES = 7
MAX_TIES = 30
MAX_MADE = 60


def check_net(net):
    """Refuse what is no net."""
    if not isinstance(net, Net):
        raise InvalidNet("this is no net")


def check_several(net):
    """Refuse what is no net, and a net of one place."""
    check_net(net)
    if len(net) == 1:
        raise InvalidOperation("a net of one place falls in no parts")


class Net:
    """A net: one to seven places, and ties, each between two different places."""

    def __init__(self, places, ties=None):
        _check_places(places)
        if ties is not None and not _are_ties(places, ties):
            raise InvalidNet("these are no ties of a net")
        self._keep(places, {} if ties is None else ties)

    def _keep(self, places, ties):
        self._places = tuple(sorted(places))
        self._pairs = pairs_of(self._places)
        self._ties = {pair: ties[pair] for pair in self._pairs if ties.get(pair, 0) > 0}
        self._size = sum(list(self._ties.values()))
        self._pieces = gathered(self._places, list(self._ties))

    @classmethod
    def full(cls, places, *, many=1):
        """Return the net with so many ties between each two places."""
        _check_places(places)
        check_many(many)
        return cls(places, {pair: many for pair in pairs_of(places)})

    @classmethod
    def ring(cls, places, *, many=1):
        """Return the net with so many ties between each two neighbours in the tuple."""
        _check_places(places)
        check_many(many)
        return cls(places, {pair: many for pair in _neighbours(places)})

    @property
    def places(self):
        """The places, ascending."""
        return self._places

    @property
    def ties(self):
        """The dict from the tied pairs to their numbers of ties."""
        return {pair: self._ties[pair] for pair in self._ties}

    @property
    def size(self):
        """The number of all ties."""
        return self._size

    @property
    def pairs(self):
        """All pairs of places, ascending, tied or not."""
        return self._pairs

    @property
    def degrees(self):
        """The dict from the places to how many ties they have."""
        return {place: self._degree(place) for place in self._places}

    @property
    def odd(self):
        """The places with an odd number of ties, ascending."""
        return tuple([place for place in self._places if self._degree(place) % 2 == 1])

    @property
    def pieces(self):
        """The finest parting with no ties across."""
        return self._pieces

    @property
    def is_joined(self):
        """Whether the net has one piece."""
        return len(self._pieces) == 1

    def _degree(self, place):
        return sum([self._ties[pair] for pair in self._ties if place in pair])

    def tied(self, one, other):
        """Return the number of ties between two places, in either order."""
        check_two(self._places, one, other)
        return self._ties.get(pair_of(one, other), 0)

    def near(self, place):
        """Return the ascending tuple of the places tied to one."""
        check_place(self._places, place)
        others = [other for other in self._places if other != place]
        return tuple([other for other in others if pair_of(place, other) in self._ties])

    def joined(self, one, other, many=1):
        """Return the net with so many ties more between two places."""
        check_two(self._places, one, other)
        check_many(many)
        return self._changed(pair_of(one, other), many)

    def untied(self, one, other, many=1):
        """Return the net with so many ties less between two places."""
        check_two(self._places, one, other)
        check_many(many)
        if many > self.tied(one, other):
            raise InvalidNumber(many)
        return self._changed(pair_of(one, other), -many)

    def _changed(self, pair, more):
        ties = self.ties
        ties[pair] = ties.get(pair, 0) + more
        return _made(self._places, ties)

    def with_place(self, place):
        """Return the net with one place more, without ties."""
        # No word, one that is there, and an eighth one are refused as for any net.
        return _made(self._places + (place,), self._ties)

    def without_place(self, place):
        """Return the net without a place and its ties."""
        check_place(self._places, place)
        # To be without the only place is refused as for any net.
        return _made(tuple([other for other in self._places if other != place]), self._ties)

    def within(self, lot):
        """Return the net of the places of a lot, with the ties inside it."""
        self._check_lot(lot)
        return _made(lot, self._ties)

    def shrunk(self, lot, place):
        """Return the net with one place for a lot, with all ties that leave the lot."""
        self._check_lot(lot)
        if not is_place(place) or (place in self._places and place not in lot):
            raise InvalidNet("this place cannot stand for the lot")
        return self._mapped({other: place if other in lot else other for other in self._places})

    def renamed(self, names):
        """Return the net with other places."""
        if not self._are_names(names):
            raise InvalidOperation("these are no names for the places")
        return self._mapped(names)

    def _mapped(self, names):
        ties = {}
        for one, other in self._ties:
            if names[one] != names[other]:
                pair = pair_of(names[one], names[other])
                ties[pair] = ties.get(pair, 0) + self._ties[(one, other)]
        return _made(tuple(sorted(set(list(names.values())))), ties)

    def times(self, many):
        """Return the net with each tie so often."""
        check_many(many)
        return _made(self._places, {pair: self._ties[pair] * many for pair in self._ties})

    def plus(self, other):
        """Return the net with the ties of this and another net of the same places."""
        if not isinstance(other, Net) or other.places != self._places:
            raise InvalidNet("this is no net of the same places")
        ties, more = self.ties, other.ties
        for pair in more:
            ties[pair] = ties.get(pair, 0) + more[pair]
        return _made(self._places, ties)

    def _check_lot(self, lot):
        if not is_lot_of(self._places, lot) or not lot:
            raise InvalidLot("this is no lot of the net with a place")

    def _are_names(self, value):
        if not isinstance(value, dict) or len(value) != len(self._places):
            return False
        if not all([place in value and is_place(value[place]) for place in self._places]):
            return False
        return len(set(list(value.values()))) == len(value)

    def __len__(self):
        return len(self._places)

    def __contains__(self, value):
        return isinstance(value, str) and value in self._places

    def __iter__(self):
        return iter(self._places)

    def __eq__(self, other):
        return isinstance(other, Net) and self._places == other._places and self._ties == other._ties

    def __str__(self):
        return f"net of {len(self._places)} places, {self._size} ties"


def _check_places(places):
    if not isinstance(places, tuple) or not 1 <= len(places) <= MAX_PLACES:
        raise InvalidNet("the places are a tuple of one to seven")
    if not all([is_place(place) for place in places]) or len(set(places)) != len(places):
        raise InvalidNet("the places are different words")


def _neighbours(places):
    # Two places are neighbours both ways round, and one is its own: neither gives a further tie.
    return [pair_of(one, other) for one, other in zip(places, places[1:] + places[:1]) if one != other]


def _are_ties(places, value):
    if not isinstance(value, dict):
        return False
    for pair, many in value.items():
        if not is_pair_of(places, pair) or not is_integer(many) or many < 1:
            return False
    return sum(list(value.values())) <= MAX_TIES


def _made(places, ties):
    """Return a net that a method makes: it may have up to sixty ties.

    Ties of places that are not among its own are left out.
    """
    if sum(list(ties.values())) > MAX_MADE:
        raise InvalidNet("there are more ties than a net can have")
    net = Net(places)
    net._keep(places, ties)
    return net
