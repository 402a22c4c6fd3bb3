"""Ring webs, beside a second way of judging webs and of counting what they tell."""

import itertools
import unittest

from holdsfast.base.nets import Net
from holdsfast.errors import InvalidNet, InvalidOperation, UnknownPlace
from holdsfast.least.cuts import leaves, least_lots
from holdsfast.least.webs import is_ring_web, is_web, node_of, ring_web, web_leaves, web_lots
from tests.helpers import (
    APART, CROWD, EXAMPLES, FULL, HUB, HUGE, ODD_VALUES, PAIRED, PATH, POINT, RING, SEVEN, TWO, Refusals, count_cut,
    counting_lots, mixed_nets, raised, same, small_nets, wrong_nets,
)

NETS = tuple(net for net in EXAMPLES + tuple(small_nets()) + tuple(mixed_nets(120, 8))
             if len(net.places) > 1 and net.is_joined)
STAR = ((("a",), ("b",), ("c",), ("d",), ()), ((0, 4), (1, 4), (2, 4), (3, 4)))
ROUND = ((("a",), ("b",), ("c",), ("d",)), ((0, 1, 2, 3),))
LINE = ((("a", "b", "z"), ("c",)), ((0, 1),))


def ways_between(web, one, other):
    """Count the ways from a node to another one that meet no node and no ring twice."""
    def onward(node, nodes, rings):
        if node == other:
            return 1
        return sum(onward(far, nodes | {far}, rings | {at}) for at, ring in enumerate(web[1]) if node in ring
                   and at not in rings for far in ring if far not in nodes)
    return onward(one, {one}, frozenset())


def is_right_web(net, web):
    """Judge a web whose parts are of the right kinds, by counting ways."""
    nodes, rings = web
    if sorted(place for lot in nodes for place in lot) != list(net.places):
        return False
    if any(len(ring) < 2 or len(set(ring)) < len(ring) or not set(ring) <= set(range(len(nodes))) for ring in rings):
        return False
    if any(list(lot) != sorted(lot) for lot in nodes):
        return False
    if any(ways_between(web, one, other) != 1 for one, other in itertools.combinations(range(len(nodes)), 2)):
        return False
    if len(nodes) == 1 and rings:
        return False
    return all(lot or sum(1 for ring in rings if at in ring) >= 2 for at, lot in enumerate(nodes))


def told_lots(net, web):
    """Take two links away at a time, and see how the nodes fall apart."""
    nodes, rings = web
    links = [(at, ring[k], ring[(k + 1) % len(ring)]) for at, ring in enumerate(rings) for k in range(len(ring))]
    told = set()
    for one, other in itertools.combinations(range(len(links)), 2):
        if links[one][0] == links[other][0]:
            kept = [link for at, link in enumerate(links) if at not in (one, other)]
            half = {links[one][1]}
            for _ in nodes:
                for _, near, far in kept:
                    if near in half or far in half:
                        half |= {near, far}
            lot = {place for node in half for place in nodes[node]}
            for side in (lot, set(net.places) - lot):
                if 0 < len(side) < len(net.places):
                    told.add(tuple(sorted(side)))
    return told


def count_least(net):
    counts = {lot: count_cut(net, lot) for lot in counting_lots(net)}
    return {lot for lot in counts if counts[lot] == min(counts.values())}


def reordered(web):
    """Yield the web with its nodes and rings in other orders, and its rings turned and reversed."""
    nodes, rings = web
    for step in range(1, len(nodes)):
        order = list(range(step, len(nodes))) + list(range(step))
        places = tuple(nodes[at] for at in order)
        turned = tuple(tuple(order.index(node) for node in ring[step % len(ring):] + ring[:step % len(ring)])
                       for ring in rings)
        yield places, turned
        yield places, turned[::-1]
        yield places, tuple(ring[::-1] for ring in turned)


def changed_webs(web):
    """Yield values with one thing changed that are right webs of no net."""
    nodes, rings = web
    for at, ring in enumerate(rings):
        before, behind = rings[:at], rings[at + 1:]
        yield nodes, before + behind
        yield nodes, before + (ring, ring) + behind
        yield nodes, before + (ring[:1],) + behind
        yield nodes, before + ((),) + behind
        yield nodes, before + (list(ring),) + behind
        yield nodes, before + (ring + ring[:1],) + behind
        for wrong in (len(nodes), -1, HUGE, None, "0", (0,), bool(ring[0])):
            yield nodes, before + ((wrong,) + ring[1:],) + behind
    for at, lot in enumerate(nodes):
        for wrong in (lot + ("q",), list(lot), None, "a", True, lot + lot[:1], lot[::-1] if len(lot) > 1 else "z"):
            if wrong != lot:
                yield nodes[:at] + (wrong,) + nodes[at + 1:], rings
        yield nodes[:at] + nodes[at + 1:], rings
    yield nodes + ((),), rings
    yield nodes + ((),), rings + ((0, len(nodes)),)
    yield list(nodes), rings
    yield nodes, list(rings)
    yield [nodes, rings]
    yield (nodes,)
    yield nodes, rings, ()
    yield rings, nodes


class TestWebs(unittest.TestCase):
    def test_all_small_webs(self):
        for net, most in ((POINT, 3), (TWO, 4), (PATH, 3)):
            right = 0
            for many in range(1, most + 1):
                rows = [ring for size in range(1, 4) for ring in itertools.product(range(many), repeat=size)]
                for spread in itertools.product(range(many), repeat=len(net.places)):
                    nodes = tuple(tuple(p for p, k in zip(net.places, spread) if k == at) for at in range(many))
                    for size in range(3):
                        for rings in itertools.combinations(rows, size):
                            right += self.check_web(net, (nodes, rings))
            self.assertGreater(right, 0)

    def check_web(self, net, web):
        expected = is_right_web(net, web)
        self.assertIs(is_web(net, web), expected, web)
        if expected:
            first = {lot for lot in told_lots(net, web) if net.places[0] in lot}
            self.assertEqual(web_lots(net, web), tuple(sorted(first)))
        return expected

    def test_webs_of_one_node(self):
        self.assertIs(is_web(POINT, ((("a",),), ())), True)
        self.assertIs(is_web(FULL, ((FULL.places,), ())), True)
        self.assertEqual(web_lots(FULL, ((FULL.places,), ())), ())
        self.assertEqual(web_leaves(FULL, ((FULL.places,), ())), ())
        self.assertEqual(node_of(FULL, ((FULL.places,), ()), "c"), 0)
        for value in ((((), ("a",)), ()), (((), ("a",)), ((0, 1),)), ((("a",),), ((0,),)), ((("a",),), ((0, 0),)),
                      ((), ()), (((),), ())):
            self.assertIs(is_web(POINT, value), False, value)

    def test_what_hangs_together(self):
        nodes = (("a",), ("b",), ("c",), ("d",))
        for rings, right in ((((0, 1), (1, 2), (2, 3)), True), (((0, 1, 2), (2, 3)), True), (((0, 1), (2, 3)), False),
                             (((0, 1, 2), (0, 1, 3)), False), (((0, 1), (1, 2), (0, 2), (2, 3)), False),
                             (((0, 1, 2, 3), (0, 1)), False), (((0, 1, 2),), False), (((0, 1), (0, 1), (2, 3)), False)):
            self.assertIs(is_web(FULL, (nodes, rings)), right, rings)
            self.assertIs(is_right_web(FULL, (nodes, rings)), right, rings)

    def test_empty_nodes_are_in_two_rings(self):
        self.assertIs(is_web(FULL, STAR), True)
        self.assertIs(is_web(TWO, ((("a",), (), ("b",)), ((0, 1), (1, 2)))), True)
        self.assertIs(is_web(TWO, ((("a",), (), ("b",)), ((0, 1, 2),))), False)
        self.assertIs(is_web(TWO, ((("a",), ("b",), ()), ((0, 1), (1, 2)))), False)

    def test_web_lots_and_leaves_and_nodes(self):
        webs = [(FULL, STAR), (RING, ROUND), (HUB, LINE)] + [(net, ring_web(net)) for net in NETS]
        for net, web in webs:
            told = told_lots(net, web)
            self.assertEqual(web_lots(net, web), tuple(sorted(lot for lot in told if net.places[0] in lot)))
            alone = [lot for at, lot in enumerate(web[0]) if lot and sum(1 for ring in web[1] if at in ring) == 1]
            self.assertEqual(web_leaves(net, web), tuple(sorted(alone)))
            for place in net.places:
                index = node_of(net, web, place)
                self.assertIs(type(index), int)
                self.assertIn(place, web[0][index])


class TestRingWebs(unittest.TestCase):
    def test_ring_webs(self):
        for net in NETS:
            web = ring_web(net)
            self.assertTrue(is_right_web(net, web), (net.ties, web))
            self.assertEqual(told_lots(net, web), count_least(net))
            self.assertLessEqual(len(web[0]), 20)
            self.assertIs(is_ring_web(net, web), True)
            self.assertEqual(web_lots(net, web), least_lots(net))
            self.assertEqual(web_leaves(net, web), leaves(net))

    def test_other_orders(self):
        for net in NETS[::4] + (RING, FULL, SEVEN, Net.ring(SEVEN.places)):
            for web in reordered(ring_web(net)):
                self.assertIs(is_ring_web(net, web), True, (net.ties, web))

    def test_webs_of_other_nets(self):
        nets = [net for net in NETS if len(net.places) == 4]
        webs = {ring_web(net) for net in nets if net.places == RING.places} | {ROUND, STAR}
        for net in nets:
            for web in webs if net.places == RING.places else ():
                self.assertIs(is_ring_web(net, web), told_lots(net, web) == count_least(net))

    def test_one_thing_changed(self):
        for net, web in ((FULL, STAR), (RING, ROUND), (HUB, LINE), (SEVEN, ring_web(SEVEN)), (PATH, ring_web(PATH))):
            for value in changed_webs(web):
                self.assertIs(is_web(net, value), False, value)
                self.assertIs(is_ring_web(net, value), False, value)
        moved = ((("a",), ("b", "c"), (), ("d",), ()), STAR[1])
        self.assertIs(is_web(FULL, moved), False)
        for order in itertools.permutations(range(4)):
            fits = abs(order.index(0) - order.index(2)) == 2
            self.assertIs(is_ring_web(RING, (ROUND[0], (order,))), fits)

    def test_other_webs_that_tell_the_same(self):
        self.assertIs(is_ring_web(RING, ((("a",), (), ("b",), ("c",), ("d",)), ((0, 1), (1, 2, 3, 4)))), True)
        self.assertIs(is_ring_web(RING, ((("a",), (), ("b",), ("c",), ("d",)), ((0, 1), (1, 2, 4, 3)))), False)
        three = Net.ring(("a", "b", "c"))
        self.assertIs(is_ring_web(three, ((("a",), ("b",), ("c",)), ((0, 1, 2),))), True)
        self.assertIs(is_ring_web(three, ((("a",), ("b",), ("c",), ()), ((0, 3), (1, 3), (2, 3)))), True)
        self.assertIs(is_ring_web(three, ((("a",), ("b",), ("c",)), ((0, 1), (1, 2)))), False)

    def test_twenty_nodes_and_more(self):
        for many in (2, 3, 19, 20, 21, 40):
            nodes = (("a",),) + ((),) * (many - 2) + (("b",),)
            web = (nodes, tuple((at, at + 1) for at in range(many - 1)))
            self.assertIs(is_web(TWO, web), True)
            self.assertEqual(web_lots(TWO, web), (("a",),))
            self.assertEqual((web_leaves(TWO, web), node_of(TWO, web, "b")), ((("a",), ("b",)), many - 1))
            self.assertIs(is_ring_web(TWO, web), many <= 20)

    def test_rings_that_meet_in_an_empty_node(self):
        web = ((("a",), ("b",), ("c",), (), ("d",), ("e",), ("f",)), ((0, 1, 2, 3), (4, 5, 6, 3)))
        self.assertIs(is_ring_web(PAIRED, web), True)
        self.assertEqual(sorted(len(ring) for ring in ring_web(PAIRED)[1]), [4, 4])
        for first in "bcdef":
            names = {place: "a" if place == first else first if place == "a" else place for place in PAIRED}
            net = PAIRED.renamed(names)
            self.assertEqual(told_lots(net, ring_web(net)), count_least(net))
            self.assertIs(is_ring_web(net, ring_web(net)), True)

    def test_seven_places(self):
        ring = Net.ring(SEVEN.places)
        whole = (tuple((place,) for place in SEVEN.places), (tuple(range(7)),))
        self.assertIs(is_ring_web(ring, whole), True)
        self.assertIs(is_ring_web(ring.times(8), whole), True)
        self.assertIs(is_ring_web(SEVEN, whole), False)
        self.assertIs(is_ring_web(CROWD, ring_web(CROWD)), True)


class TestRefusals(Refusals, unittest.TestCase):
    def test_nets(self):
        wrong = wrong_nets() + [(net, (InvalidOperation, None)) for net in (POINT, APART, Net(("a", "b")))]
        self.check_refusals(ring_web, [("net", PATH, wrong)])
        for value in (None, ring_web(PATH), ()):
            self.check_refusals(lambda net: is_ring_web(net, value), [("net", PATH, wrong)])
            self.check_refusals(lambda net: is_web(net, value), [("net", PATH, wrong_nets())])
        self.assertEqual(raised(is_ring_web, POINT, ((("a",),), ())), (InvalidOperation, None))

    def test_webs(self):
        web = ring_web(PATH)
        wrong = [(value, (InvalidOperation, None)) for value in list(ODD_VALUES) + list(changed_webs(web)) + [STAR, LINE]]
        told = [("net", PATH, wrong_nets()), ("web", web, wrong)]
        self.check_refusals(web_lots, told)
        self.check_refusals(web_leaves, told)
        unknown = [(value, (UnknownPlace, value)) for value in ODD_VALUES if value not in ("a", "b")] + [
            ("z", (UnknownPlace, "z"))]
        self.check_refusals(node_of, told + [("place", "a", unknown)])
        self.assertEqual(raised(node_of, None, None, None), (InvalidNet, None))

    def test_judges_take_every_value(self):
        for net in (PATH, HUB, TWO, FULL):
            self.check_judge(is_web, net)
            self.check_judge(is_ring_web, net)
        self.check_judge(is_web, POINT)
        self.check_judge(is_web, APART)

    def test_true_is_no_index(self):
        for ring in ((True, 0), (0, True), (False, 1), (1, False), (True, False)):
            self.assertIs(is_web(TWO, ((("a",), ("b",)), (ring,))), False)
            self.assertIs(is_ring_web(TWO, ((("a",), ("b",)), (ring,))), False)
        self.assertIs(is_ring_web(TWO, ((("a",), ("b",)), ((1, 0),))), True)
        self.assertTrue(same(node_of(TWO, ((("b",), ("a",)), ((1, 0),)), "a"), 1))


if __name__ == "__main__":
    unittest.main()
