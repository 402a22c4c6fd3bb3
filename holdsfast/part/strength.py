"""The strength of a net, and the partings with the least worth at each level."""

from holdsfast.base.lots import across, across_table, is_parting
from holdsfast.base.nets import check_net, check_several
from holdsfast.base.words import fraction, is_fraction, is_lower
from holdsfast.errors import InvalidNumber
from holdsfast.trees.forests import are_apart, packed_forests, so_often
from holdsfast.trees.packed import is_tree


def strength(net):
    """Return the least fraction of ties across by parts less 1, None for a net of one place."""
    check_net(net)
    if len(net) == 1:
        return None
    return critical_levels(net)[0]


def weakest(net):
    """Return the finest parting with as few ties across, for its parts less 1, as the strength tells."""
    return chain(net)[1]


def strength_paper(net):
    """Return a pair of a parting with the strength (p, q), and p trees in which no tie stands more than q times."""
    check_several(net)
    many, times = strength(net)
    return (weakest(net), packed_forests(net.places, so_often(net.ties, times), many))


def is_strength_paper(net, value):
    """Tell whether a value is such a pair."""
    check_several(net)
    if not isinstance(value, tuple) or len(value) != 2:
        return False
    parting, trees = value
    if not is_parting(net, parting) or len(parting) < 2 or not isinstance(trees, tuple):
        return False
    many, times = fraction(across(net, parting), len(parting) - 1)
    if len(trees) != many or not all([is_tree(net, tree) for tree in trees]):
        return False
    return are_apart(trees, so_often(net.ties, times))


def finest_at(net, level):
    """Return the finest least parting at a level."""
    return max(_least_at(net, level), key=len)


def coarsest_at(net, level):
    """Return the coarsest least parting at a level."""
    return min(_least_at(net, level), key=len)


def _least_at(net, level):
    """Return the list of the least partings at a level."""
    check_net(net)
    if not is_fraction(level):
        raise InvalidNumber(level)
    check_several(net)
    table = across_table(net)
    # The worth is taken so often that it is an integer.
    worth = {parting: table[parting] * level[1] - level[0] * len(parting) for parting in table}
    least = min(list(worth.values()))
    return [parting for parting in worth if worth[parting] == least]


def critical_levels(net):
    """Return the tuple of the critical levels, the least one first."""
    return tuple([level for level, _ in _steps(net)])


def chain(net):
    """Return the tuple of the parting with one part, and of the finest least partings at the critical levels."""
    steps = _steps(net)
    return ((net.places,),) + tuple([parting for _, parting in steps])


def _steps(net):
    """Return the list of the critical levels, each with the finest least parting there.

    A least parting stays least as the level rises until another one costs no
    more ties across for each further part than the level tells.
    """
    check_several(net)
    table = across_table(net)
    # Of the partings with so many parts only one with the fewest ties across can be least.
    fewest = {}
    for parting in table:
        if len(parting) not in fewest or table[parting] < table[fewest[len(parting)]]:
            fewest[len(parting)] = parting
    steps = []
    last = (net.places,)
    while len(last) < len(net):
        level, last = _step_from(table, [fewest[many] for many in range(len(last) + 1, len(net) + 1)], last)
        steps.append((level, last))
    return steps


def _step_from(table, finer, last):
    """Return the least level at which one of some partings, more parts coming later, is as good as the last one."""
    best = None
    for parting in finer:
        level = fraction(table[parting] - table[last], len(parting) - len(last))
        if best is None or not is_lower(best[0], level):
            best = (level, parting)
    return best
