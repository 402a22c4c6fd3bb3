"""As many ways as there is room for, found by one more way again and again."""


def ways_through(places, room, one, other):
    """Return a tuple of as many ways from the one place to the other as there is room for.

    `room` is a dict from tuples (from, to) to how many ways can go there.
    """
    left = {step: room[step] for step in room}
    found = 0
    ahead = reached(places, left, one)
    while other in ahead:
        turn_way(left, ahead, other)
        found += 1
        ahead = reached(places, left, one)
    used = {step: room[step] - left[step] for step in room}
    return tuple([_peeled(places, used, one, other) for _ in range(found)])


def reached(places, room, one):
    """Return the dict from the places that one comes to where there is room to the places ahead of them."""
    ahead = {one: None}
    queue = [one]
    at = 0
    while at < len(queue):
        for place in places:
            if place not in ahead and room.get((queue[at], place), 0) > 0:
                ahead[place] = queue[at]
                queue.append(place)
        at += 1
    return ahead


def turn_way(room, ahead, other):
    """Take the room of a reached way, and give it to the way back, so that a later way can undo a step."""
    place = other
    while ahead[place] is not None:
        back = ahead[place]
        room[(back, place)] -= 1
        room[(place, back)] = room.get((place, back), 0) + 1
        place = back


def _peeled(places, used, one, other):
    """Take one way off the used steps; circles on it are taken off, too, and left out."""
    way = [one]
    while way[-1] != other:
        onward = [place for place in places if used.get((way[-1], place), 0) > 0][0]
        used[(way[-1], onward)] -= 1
        if onward in way:
            way = way[:way.index(onward)]
        way.append(onward)
    return tuple(way)
