"""As many ties as can be in forests that share no tie, found by one tie more again and again."""

from holdsfast.base.lots import is_net_forest


def are_forests(net, value):
    """Tell whether a value is a tuple of forests of the net."""
    return isinstance(value, tuple) and all([is_net_forest(net, forest) for forest in value])


def times_used(forests):
    """Return the dict from pairs to the number of the forests in which they stand."""
    used = {}
    for forest in forests:
        for pair in forest:
            used[pair] = used.get(pair, 0) + 1
    return used


def are_apart(forests, ties):
    """Tell whether each pair of forests of a net stands in at most as many of them as there are ties."""
    used = times_used(forests)
    return all([used[pair] <= ties[pair] for pair in used])


def so_often(ties, times):
    """Return the dict from the pairs of ties to so many times their numbers."""
    return {pair: times * ties[pair] for pair in ties}


def packed_forests(places, ties, many):
    """Return a tuple of so many forests that share no tie and together have as many of the ties as can be.

    `ties` is a dict from pairs to numbers of ties.
    """
    forests = [()] * many
    known = {}
    for pair in ties:
        for _ in range(ties[pair]):
            # A pair for which there is no room has none later, either.
            if not _put(places, forests, known, pair):
                break
    return tuple(forests)


def _put(places, forests, known, pair):
    """Put a pair in one of the forests, if others can make way for it; tell whether it was done.

    A pair that closes a circle in a forest can take the room of each other
    pair of the circle, which then needs room in its turn: so all pairs are
    searched that can be pushed out, in as few steps as can be.
    """
    tables = [_known_paths(places, known, forest) for forest in forests]
    came = {pair: None}
    queue = [pair]
    at = 0
    while at < len(queue):
        for index in range(len(forests)):
            between = tables[index].get(queue[at])
            if between is None:
                _push(forests, came, queue[at], index)
                return True
            for other in between:
                if other not in came:
                    came[other] = (queue[at], index)
                    queue.append(other)
        at += 1
    return False


def _push(forests, came, pair, index):
    """Give a pair room in a forest, and the room that it leaves to the one that pushed it out, and so on."""
    while came[pair] is not None:
        forests[index] = tuple(sorted(forests[index] + (pair,)))
        pusher, left = came[pair]
        forests[left] = tuple([other for other in forests[left] if other != pair])
        pair, index = pusher, left
    forests[index] = tuple(sorted(forests[index] + (pair,)))


def _known_paths(places, known, forest):
    # Many forests are alike, and most stay as they are from one step to the next one.
    if forest not in known:
        known[forest] = _paths(places, forest)
    return known[forest]


def _paths(places, forest):
    """Return the dict from the pairs of places that a forest joins to the pairs of it between them."""
    paths = {}
    for start in places:
        found = {start: ()}
        queue = [start]
        at = 0
        while at < len(queue):
            for pair in forest:
                if queue[at] in pair:
                    far = pair[1] if pair[0] == queue[at] else pair[0]
                    if far not in found:
                        found[far] = found[queue[at]] + (pair,)
                        queue.append(far)
            at += 1
        for place in found:
            if start < place:
                paths[(start, place)] = found[place]
    return paths
