"""A live net, which is changed step by step while pinned claims go on to hold."""

from holdsfast.base.checks import check_steps
from holdsfast.base.nets import check_net
from holdsfast.base.words import is_fraction, is_integer, is_lower, is_place
from holdsfast.errors import InvalidOperation, Refused
from holdsfast.least.cuts import least_cut
from holdsfast.part.crowds import crowding
from holdsfast.part.strength import strength
from holdsfast.trees.covers import fewest_forests
from holdsfast.trees.packed import most_trees
from holdsfast.ways.numbers import number

WORDS = ("crowding", "forests", "least", "strength", "trees")


def facts(net):
    """Return the dict from the words to the facts of a net."""
    check_net(net)
    return {
        "crowding": crowding(net),
        "forests": fewest_forests(net),
        "least": least_cut(net) if len(net) > 1 else None,
        "strength": strength(net),
        "trees": most_trees(net),
    }


def is_claim(value):
    """Tell whether a value is a claim."""
    if not isinstance(value, tuple) or not value:
        return False
    if value[0] == "number" and len(value) == 4:
        return is_place(value[1]) and is_place(value[2]) and value[1] != value[2] and _is_many(value[3])
    if value[0] in ("least", "trees", "forests") and len(value) == 2:
        return _is_many(value[1])
    return value[0] in ("strength", "crowding") and len(value) == 2 and is_fraction(value[1])


def _is_many(value):
    return is_integer(value) and value >= 0


def does_hold(net, claim):
    """Tell whether a claim holds of a net."""
    check_net(net)
    _check_claim(claim)
    return _holds(net, facts(net), claim)


def _check_claim(claim):
    if not is_claim(claim):
        raise InvalidOperation("this is no claim")


def _holds(net, known, claim):
    """Tell whether a claim holds of a net with known facts."""
    word, told = claim[0], claim[-1]
    if word == "number":
        return claim[1] in net and claim[2] in net and number(net, claim[1], claim[2]) >= told
    if len(net) == 1:
        return True
    if word == "strength":
        return not is_lower(known[word], told)
    if word == "crowding":
        return not is_lower(told, known[word])
    return known[word] <= told if word == "forests" else known[word] >= told


class Moment:
    """Where a live net is in its history; it never changes.

    `steps` has a tuple (name of the change, net, its facts, pinned claims) for
    the start and each change, also for those that can be done again; `at` is
    the index of the one that counts now.
    """

    def __init__(self, steps, at):
        self.steps = steps
        self.at = at
        _, self.held, self.known, self.claims = steps[at]


class Entry:
    """Where a live net was when a block was entered, and the entry of the block around it."""

    def __init__(self, now, further):
        self.now = now
        self.further = further


class Live:
    """A net that is changed step by step."""

    def __init__(self, net):
        self._now = Moment((("", net, facts(net), ()),), 0)
        self._entered = None

    @property
    def net(self):
        """The net as it is now."""
        return self._now.held

    @property
    def pins(self):
        """The tuple of the pinned claims, in the order in which they were pinned."""
        return self._now.claims

    @property
    def log(self):
        """The tuple of the names of the changes that can be taken back, the first one first."""
        return tuple([step[0] for step in self._now.steps[1:self._now.at + 1]])

    def tie(self, one, other, many=1):
        """Put in so many ties between two places; return the news."""
        return self._make("tie", self._now.held.joined(one, other, many))

    def untie(self, one, other, many=1):
        """Take off so many ties between two places; return the news."""
        return self._make("untie", self._now.held.untied(one, other, many))

    def add(self, place):
        """Add a place without ties; return the news."""
        return self._make("add", self._now.held.with_place(place))

    def remove(self, place):
        """Remove a place and its ties; return the news."""
        return self._make("remove", self._now.held.without_place(place))

    def shrink(self, lot, place):
        """Put one place for a lot; return the news."""
        return self._make("shrink", self._now.held.shrunk(lot, place))

    def rename(self, names):
        """Give the places other names, which claims do not follow; return the news."""
        return self._make("rename", self._now.held.renamed(names))

    def pin(self, claim):
        """Pin a claim, so that each change behind which it does not hold is refused; return the news."""
        _check_claim(claim)
        if claim in self._now.claims:
            raise InvalidOperation("this claim is pinned already")
        if not _holds(self._now.held, self._now.known, claim):
            raise Refused(claim)
        return self._change("pin", self._now.held, self._now.known, self._now.claims + (claim,))

    def unpin(self, claim):
        """Let a pinned claim go; return the news."""
        _check_claim(claim)
        if claim not in self._now.claims:
            raise InvalidOperation("this claim is not pinned")
        left = tuple([other for other in self._now.claims if other != claim])
        return self._change("unpin", self._now.held, self._now.known, left)

    def _make(self, word, net):
        """Go over to another net if all pinned claims hold of it."""
        known = facts(net)
        for claim in self._now.claims:
            if not _holds(net, known, claim):
                raise Refused(claim)
        return self._change(word, net, known, self._now.claims)

    def _change(self, word, net, known, claims):
        at = self._now.at + 1
        return self._go(self._now.steps[:at] + ((word, net, known, claims),), at)

    def _go(self, steps, at):
        """Go to a step, and return the news."""
        before = self._now.known
        self._now = Moment(steps, at)
        now = self._now.known
        return tuple([(word, before[word], now[word]) for word in WORDS if before[word] != now[word]])

    def undo(self, *, many=1):
        """Take back so many changes, the last one first; return the news of all of them together."""
        check_steps(many, self._now.at)
        return self._go(self._now.steps, self._now.at - many)

    def redo(self, *, many=1):
        """Do so many changes again that were taken back; return the news of all of them together."""
        check_steps(many, len(self._now.steps) - 1 - self._now.at)
        return self._go(self._now.steps, self._now.at + many)

    def attempt(self):
        """Return the live net for `with`: when the block is left, it is as it was when the block was entered."""
        return self

    def __enter__(self):
        self._entered = Entry(self._now, self._entered)
        return self

    def __exit__(self, *told):
        self._now = self._entered.now
        self._entered = self._entered.further

    def during(self, call):
        """Return what a function returns that is called with the live net in such a block."""
        with self.attempt() as same:
            return call(same)

    def twin(self):
        """Return an independent equal live net, with the same changes to take back and to do again."""
        other = Live(self._now.held)
        other._now = self._now
        return other

    def __getitem__(self, at):
        if at not in WORDS:
            raise InvalidOperation("this is no word of a fact")
        return self._now.known[at]

    def __contains__(self, value):
        return value in self._now.held

    def __len__(self):
        return len(range(self._now.held.size))

    def __iter__(self):
        return iter(self._now.claims)

    def __eq__(self, other):
        return isinstance(other, Live) and self.net == other.net and self.pins == other.pins

    def __str__(self):
        return f"{str(self._now.held)}; {len(self._now.claims)} pins"
