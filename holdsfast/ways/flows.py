"""As many ways as there is room for, found by one more way again and again."""


def ways_through(places, room, one, other):
    """Return a tuple of as many ways from the one place to the other as there is room for.

    `room` is a dict from tuples (from, to) to how many ways can go there.
    """
    left = {step: room[step] for step in room}
    found = 0
    ahead = _searched(places, left, one)
    while other in ahead:
        _take(left, ahead, other)
        found += 1
        ahead = _searched(places, left, one)
    used = {step: room[step] - left[step] for step in room}
    return tuple([_peeled(places, used, one, other) for _ in range(found)])


def _searched(places, left, one):
    """Return the dict from the places that can still be reached to the places ahead of them."""
    ahead = {one: None}
    queue = [one]
    at = 0
    while at < len(queue):
        for place in places:
            if place not in ahead and left.get((queue[at], place), 0) > 0:
                ahead[place] = queue[at]
                queue.append(place)
        at += 1
    return ahead


def _take(left, ahead, other):
    # Room is given to the way back, so that a later way can undo a step.
    place = other
    while ahead[place] is not None:
        back = ahead[place]
        left[(back, place)] -= 1
        left[(place, back)] = left.get((place, back), 0) + 1
        place = back


def _peeled(places, used, one, other):
    """Take one way off the used steps; circles on it are taken off, too, and left out."""
    way = [one]
    while way[-1] != other:
        onward = [place for place in places if used.get((way[-1], place), 0) > 0][0]
        used[(way[-1], onward)] -= 1
        if onward in way:
            way = way[:way.index(onward)]
        way.append(onward)
    return tuple(way)
