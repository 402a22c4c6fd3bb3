"""A game: Cutter takes ties away, Keeper makes them safe, and wants to join all places."""

from holdsfast.base.checks import check_steps, check_two
from holdsfast.base.lots import across_counts, is_net_forest
from holdsfast.base.nets import check_net
from holdsfast.base.parts import gathered, is_across, is_pair_of, pair_of
from holdsfast.base.words import is_integer
from holdsfast.errors import InvalidOperation, Refused
from holdsfast.trees.forests import packed_forests, times_used

PLAYERS = ("cutter", "keeper")


def is_position(net, value):
    """Tell whether a value is a position of the net: what is gone, and what is safe."""
    check_net(net)
    if not isinstance(value, tuple) or len(value) != 2 or not all([_are_counts(net, counts) for counts in value]):
        return False
    ties = net.ties
    gone, safe = value
    return all([gone.get(pair, 0) + safe.get(pair, 0) <= ties.get(pair, 0) for pair in net.pairs])


def _are_counts(net, value):
    """Tell whether a value is a dict from pairs to numbers of at least 1."""
    if not isinstance(value, dict) or not all([is_pair_of(net.places, pair) for pair in value]):
        return False
    return all([is_integer(many) and many >= 1 for many in list(value.values())])


def free(net, position):
    """Return the dict from the pairs with free ties to their numbers."""
    _check_position(net, position)
    return _free(net, position)


def _free(net, position):
    gone, safe = position
    ties = net.ties
    left = {pair: ties[pair] - gone.get(pair, 0) - safe.get(pair, 0) for pair in ties}
    return {pair: left[pair] for pair in left if left[pair] > 0}


def winner(net, position, turn):
    """Return who wins against each play."""
    _check_turn(net, position, turn)
    return "cutter" if _bars(net, position, turn) else "keeper"


def _spares(net, position):
    """Return the dict from the partings without safe ties across to their free ties across, less those of two trees."""
    held = across_counts(net.places, position[1])
    loose = across_counts(net.places, _free(net, position))
    return {parting: loose[parting] - 2 * (len(parting) - 1) for parting in loose if held[parting] == 0}


def _bars(net, position, turn):
    """Return the list of the bars that the player to move needs: Keeper can make up for one tie."""
    spares = _spares(net, position)
    return [parting for parting in spares if spares[parting] < (0 if turn == "cutter" else -1)]


def game_paper(net, position, turn):
    """Return a plan, a move with a plan behind it, or a bar: this shows who wins."""
    _check_turn(net, position, turn)
    bars = _bars(net, position, turn)
    if bars:
        return ("bar", bars[0])
    if turn == "cutter" or _is_safe(net, position):
        return ("plan",) + _plan(net, position)
    pair = _best_moves(net, position, turn)[0]
    return ("move", pair) + _plan(net, _made_safe(position, pair))


def _is_safe(net, position):
    """Tell whether all places are joined by safe ties."""
    return len(gathered(net.places, list(position[1]))) == 1


def _made_safe(position, pair):
    """Return the position in which one more tie of a pair is safe."""
    gone, safe = position
    return (gone, {**safe, pair: safe.get(pair, 0) + 1})


def _plan(net, position):
    """Return a pair of forests of free ties, each of which joins what safe ties have not joined yet.

    The places that safe ties join stand as one; each free tie between two of
    these then goes into one of the forests only.
    """
    groups = gathered(net.places, list(position[1]))
    heads = {place: group[0] for group in groups for place in group}
    loose = _free(net, position)
    rows = {}
    for one, other in loose:
        if heads[one] != heads[other]:
            rows.setdefault(pair_of(heads[one], heads[other]), []).extend([(one, other)] * loose[(one, other)])
    plan = packed_forests([group[0] for group in groups], {pair: len(rows[pair]) for pair in rows}, 2)
    return tuple([tuple(sorted([rows[pair].pop() for pair in forest])) for forest in plan])


def is_game_paper(net, position, turn, value):
    """Tell whether a value is one of these."""
    _check_turn(net, position, turn)
    if not isinstance(value, tuple) or not value:
        return False
    if value[0] == "plan" and len(value) == 3:
        return (turn == "cutter" or _is_safe(net, position)) and _is_plan(net, position, value[1:])
    if value[0] == "move" and len(value) == 4:
        if turn == "cutter" or value[1] not in list(_free(net, position)):
            return False
        return _is_plan(net, _made_safe(position, value[1]), value[2:])
    return value[0] == "bar" and len(value) == 2 and value[1] in _bars(net, position, turn)


def _is_plan(net, position, value):
    """Tell whether a pair is a plan at a position."""
    if not all([is_net_forest(net, forest) for forest in value]):
        return False
    safe = list(position[1])
    if not all([len(gathered(net.places, list(forest) + safe)) == 1 for forest in value]):
        return False
    loose = _free(net, position)
    used = times_used(value)
    return all([used[pair] <= loose.get(pair, 0) for pair in used])


def best_move(net, position, turn):
    """Return a pair with a free tie with which the player to move still wins, None if there is none."""
    _check_turn(net, position, turn)
    moves = _best_moves(net, position, turn)
    return moves[0] if moves else None


def is_best_move(net, position, turn, value):
    """Tell whether a value is such a pair."""
    _check_turn(net, position, turn)
    return value in _best_moves(net, position, turn)


def _best_moves(net, position, turn):
    """Return the list of the pairs with a free tie with which the player to move still wins.

    What is made safe takes away each bar that it is across, and no other one;
    what is cut takes one free tie off each parting that it is across, so that
    a bar for Cutter to move becomes one for Keeper to move.
    """
    spares = _spares(net, position)
    bars = [parting for parting in spares if spares[parting] < 0]
    loose = _free(net, position)
    if turn == "keeper":
        return [pair for pair in loose if all([is_across(parting, pair) for parting in bars])]
    return [pair for pair in loose if any([spares[parting] < -1 or is_across(parting, pair) for parting in bars])]


def _check_position(net, position):
    if not is_position(net, position):
        raise InvalidOperation("this is no position of the net")


def _check_turn(net, position, turn):
    _check_position(net, position)
    if turn not in PLAYERS:
        raise InvalidOperation("this is none of the players")


class Play:
    """A play on a net, in which Cutter moves first."""

    def __init__(self, net):
        check_net(net)
        self._net = net
        self._keep(())

    def _keep(self, moves):
        """Go to where a play is behind these moves."""
        self._moves = moves
        self._position = (_counted(moves[::2]), _counted(moves[1::2]))
        turn = PLAYERS[len(moves) % 2]
        self._turn = turn if _free(self._net, self._position) else None
        self._winner = winner(self._net, self._position, turn)

    @property
    def net(self):
        """The net that is played on."""
        return self._net

    @property
    def position(self):
        """What is gone, and what is safe."""
        gone, safe = self._position
        return ({pair: gone[pair] for pair in gone}, {pair: safe[pair] for pair in safe})

    @property
    def turn(self):
        """Who is to move, None if no tie is free."""
        return self._turn

    @property
    def moves(self):
        """The tuple of the pairs of all moves."""
        return self._moves

    @property
    def winner(self):
        """Who wins from here on."""
        return self._winner

    def move(self, one, other):
        """Cut, or make safe, one free tie between two places, and return who wins then."""
        check_two(self._net.places, one, other)
        pair = pair_of(one, other)
        if pair not in _free(self._net, self._position):
            raise Refused(pair)
        self._keep(self._moves + (pair,))
        return self._winner

    def reply(self):
        """Make a best move, or the first one if there is none, and return its pair; None if no tie is free."""
        if self._turn is None:
            return None
        pairs = _best_moves(self._net, self._position, self._turn) + list(_free(self._net, self._position))
        self._keep(self._moves + (pairs[0],))
        return pairs[0]

    def undo(self, *, many=1):
        """Take back so many moves, and return how many there are then."""
        check_steps(many, len(self._moves))
        self._keep(self._moves[:len(self._moves) - many])
        return len(self._moves)

    def branch(self):
        """Return an independent play with the same moves."""
        other = Play(self._net)
        other._keep(self._moves)
        return other

    def __len__(self):
        return len(self._moves)

    def __iter__(self):
        return iter(self._moves)

    def __eq__(self, other):
        return isinstance(other, Play) and self._net == other._net and self._moves == other._moves

    def __str__(self):
        return f"play of {len(self._moves)} moves, {self._winner} wins"


def _counted(moves):
    return {pair: moves.count(pair) for pair in sorted(set(moves))}
