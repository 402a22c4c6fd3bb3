"""Tuples of places: pairs, lots, and how places are gathered in parts."""


def pair_of(one, other):
    """Return the pair of two different places, the lesser one first."""
    return (one, other) if one < other else (other, one)


def pairs_of(places):
    """Return the tuple of all pairs of places, ascending if the places are."""
    return tuple([(one, other) for one in places for other in places if one < other])


def is_lot_of(places, value):
    """Tell whether a value is an ascending tuple of some of the places, none and all let."""
    if not isinstance(value, tuple):
        return False
    if not all([isinstance(place, str) and place in places for place in value]):
        return False
    return is_ascending(value)


def is_ascending(value):
    """Tell whether the items of a tuple, which can be compared, ascend."""
    return all([one < other for one, other in zip(value, value[1:])])


def is_pair_of(places, value):
    """Tell whether a value is a pair of two of the places."""
    return is_lot_of(places, value) and len(value) == 2


def gathered(places, pairs):
    """Return the finest parting of the places in which both places of each pair are in one part."""
    heads = {place: place for place in places}
    for one, other in pairs:
        kept, lost = heads[one], heads[other]
        for place in places:
            if heads[place] == lost:
                heads[place] = kept
    parts = {}
    for place in places:
        parts.setdefault(heads[place], []).append(place)
    return tuple(sorted([tuple(part) for part in parts.values()]))


def is_forest_of(places, ties, value):
    """Tell whether a value is an ascending tuple of pairs that have ties, along which nothing goes round."""
    if not isinstance(value, tuple) or not all([is_pair_of(places, pair) for pair in value]):
        return False
    if not is_ascending(value) or not all([pair in ties for pair in value]):
        return False
    # Each pair that closes no circle makes one part out of two.
    return len(gathered(places, value)) == len(places) - len(value)


def is_across(parting, pair):
    """Tell whether both places of a pair are in two parts."""
    return not any([pair[0] in part and pair[1] in part for part in parting])


def all_lots(places):
    """Return the ascending list of all lots of ascending places, none and all of them let."""
    rows = [()]
    for place in places:
        rows = rows + [row + (place,) for row in rows]
    return sorted(rows)


def all_partings(places):
    """Return the ascending list of all partings of ascending places."""
    if not places:
        return [()]
    rows = []
    for more in all_lots(places[1:]):
        left = tuple([place for place in places[1:] if place not in more])
        for row in all_partings(left):
            rows.append((places[:1] + more,) + row)
    return rows


def all_pairings(items):
    """Return the list of all ways to put the items of a tuple, even in number, in pairs, the earlier one first."""
    if not items:
        return [()]
    rows = []
    for at in range(1, len(items)):
        rows.extend([((items[0], items[at]),) + row for row in all_pairings(items[1:at] + items[at + 1:])])
    return rows


def are_new_ties(places, value):
    """Tell whether a value is a tuple of pairs of places in Python's order, equal ones as often as they stand."""
    if not isinstance(value, tuple) or not all([is_pair_of(places, pair) for pair in value]):
        return False
    return list(value) == sorted(value)
