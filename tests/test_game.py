"""The game, beside a second way of counting: all moves are tried to the end, for both players."""

import functools
import itertools
import random
import unittest

from holdsfast.base.nets import Net
from holdsfast.errors import InvalidNet, InvalidNumber, InvalidOperation, NothingToUndo, Refused, UnknownPlace
from holdsfast.play.game import (
    Play, best_move, free, game_paper, is_best_move, is_game_paper, is_position, winner,
)
from holdsfast.trees.packed import most_trees
from tests.helpers import (
    APART, CROWD, EXAMPLES, FULL, HUB, HUGE, ODD_VALUES, PAIRED, PATH, POINT, RING, SEVEN, TWO, Refusals,
    all_partings_of, changed_values, count_numbers, is_plain_forest, is_plain_lot, is_plain_parting, mixed_nets, raised,
    same, small_nets, tie_list, wrong_nets,
)
from tests.test_packed import SIXTY

BARE = Net(("a", "b", "c"))
TRIPLE = Net(("a", "b", "c"), {("a", "b"): 2, ("a", "c"): 1, ("b", "c"): 2})
TINY = (POINT, TWO, PATH, RING, HUB, BARE, TRIPLE, Net(("a", "b")), Net(("a", "b"), {("a", "b"): 1}),
        Net(tuple("abcd"), {("a", "b"): 2, ("c", "d"): 1}))
BOTH = ("cutter", "keeper")
START = ({}, {})


def after(position, turn, pair):
    """Return the position behind a move."""
    gone, safe = position
    held = dict(safe if turn == "keeper" else gone)
    held[pair] = held.get(pair, 0) + 1
    return (gone, held) if turn == "keeper" else (held, safe)


def plain_free(net, position):
    left = {pair: tie_list(net).count(pair) - position[0].get(pair, 0) - position[1].get(pair, 0) for pair in net.pairs}
    return {pair: many for pair, many in left.items() if many}


def are_joined(places, pairs):
    found = {places[0]}
    for _ in places:
        found |= {place for pair in pairs if found & set(pair) for place in pair}
    return len(found) == len(places)


@functools.lru_cache(maxsize=None)
def played_out(places, loose, safe, turn):
    """Try all moves to the end; `loose` has the pairs with free ties and their numbers, `safe` the safe pairs."""
    if not loose:
        return "keeper" if are_joined(places, safe) else "cutter"
    other = BOTH[1 - BOTH.index(turn)]
    for pair, many in loose:
        left = tuple((two, rest - (two == pair)) for two, rest in loose if two != pair or rest > 1)
        kept = tuple(sorted(set(safe + (pair,)))) if turn == "keeper" else safe
        if played_out(places, left, kept, other) == turn:
            return turn
    return other


def who_wins(net, position, turn):
    loose = tuple(sorted(plain_free(net, position).items()))
    return played_out(net.places, loose, tuple(sorted(position[1])), turn)


def all_positions(net):
    rows = []
    for pair, many in net.ties.items():
        rows.append([(pair, gone, safe) for gone in range(many + 1) for safe in range(many + 1 - gone)])
    for choice in itertools.product(*rows):
        yield ({pair: gone for pair, gone, _ in choice if gone}, {pair: safe for pair, _, safe in choice if safe})


def some_positions(net, many, seed):
    """Positions to which random moves lead, both players moving as often as it comes."""
    numbers = random.Random(seed)
    rows = []
    for _ in range(many):
        position = START
        for _ in range(numbers.randrange(net.size + 1)):
            position = after(position, numbers.choice(BOTH), numbers.choice(sorted(plain_free(net, position))))
        rows.append(position)
    return rows


def is_right_position(net, value):
    if type(value) is not tuple or len(value) != 2 or not all(type(counts) is dict for counts in value):
        return False
    for counts in value:
        if not count_numbers(counts) or not all(is_plain_lot(net, pair) and len(pair) == 2 for pair in counts):
            return False
    return all(value[0].get(pair, 0) + value[1].get(pair, 0) <= tie_list(net).count(pair) for pair in net.pairs)


def is_right_plan(net, position, forests):
    if not all(is_plain_forest(net, forest) for forest in forests):
        return False
    if not all(are_joined(net.places, list(forest) + list(position[1])) for forest in forests):
        return False
    used = [pair for forest in forests for pair in forest]
    return all(used.count(pair) <= plain_free(net, position).get(pair, 0) for pair in used)


def is_right_paper(net, position, turn, value):
    if type(value) is not tuple or not value or type(value[0]) is not str:
        return False
    word, told = value[0], value[1:]
    if word == "plan" and len(told) == 2:
        return (turn == "cutter" or are_joined(net.places, list(position[1]))) and is_right_plan(net, position, told)
    if word == "move" and len(told) == 3:
        if turn == "cutter" or type(told[0]) is not tuple or told[0] not in list(plain_free(net, position)):
            return False
        return is_right_plan(net, after(position, "keeper", told[0]), told[1:])
    if word == "bar" and len(told) == 1 and is_plain_parting(net, told[0]):
        between = [pair for pair in itertools.combinations(net.places, 2)
                   if not any(set(pair) <= set(part) for part in told[0])]
        if any(pair in position[1] for pair in between):
            return False
        loose = sum(plain_free(net, position).get(pair, 0) for pair in between)
        return loose < 2 * (len(told[0]) - 1) - (turn == "keeper")
    return False


class TestPositions(unittest.TestCase):
    def test_free(self):
        for net in TINY + EXAMPLES:
            for position in some_positions(net, 6, net.size):
                self.assertIs(is_position(net, position), True)
                self.assertTrue(same(free(net, position), plain_free(net, position)))
                back = tuple({pair: counts[pair] for pair in list(counts)[::-1]} for counts in position)
                self.assertTrue(same(free(net, back), plain_free(net, position)))

    def test_edges(self):
        self.assertEqual((free(POINT, START), free(BARE, START), free(PATH, START)), ({}, {}, PATH.ties))
        self.assertEqual(free(PATH, ({("a", "b"): 1}, {("a", "b"): 1, ("b", "c"): 1})), {})
        for value in (({("a", "b"): 2}, {("a", "b"): 1}), ({("a", "b"): 3}, {}), ({}, {("b", "c"): 2}), ({("a", "c"): 1}, {}),
                      ({("a", "b"): 0}, {}), ({("a", "b"): True}, {}), ({}, {("a", "b"): -1}), ({("b", "a"): 1}, {}),
                      ({}, {}, {}), ({},), [{}, {}], ({("a", "b"): 1}, {("a", "b"): HUGE}), ({}, {"ab": 1}),
                      ({("a", "q"): 1}, {}), ({}, {("a", "b"): 1.0}), ({None: 1}, {}), ({("a", "b", "c"): 1}, {})):
            self.assertIs(is_position(PATH, value), False, value)
        self.assertIs(is_position(PATH, ({("a", "b"): 1}, {("a", "b"): 1})), True)
        self.assertIs(is_position(POINT, START), True)

    def test_one_thing_changed(self):
        for net, position in ((PATH, ({("a", "b"): 1}, {("b", "c"): 1})), (TWO, START), (TRIPLE, ({}, {("a", "b"): 1}))):
            for value in changed_values(position):
                self.assertIs(is_position(net, value), is_right_position(net, value), value)


class TestWinners(unittest.TestCase):
    def test_all_positions(self):
        for net in TINY + tuple(small_nets()[::9]):
            for position in all_positions(net):
                for turn in BOTH:
                    self.check_all(net, position, turn)

    def test_other_positions(self):
        numbers = random.Random(200)
        for seed, net in enumerate([FULL, PAIRED.untied("a", "b", 2)] + mixed_nets(25, 201)):
            while net.size > 9:
                pair = numbers.choice(sorted(net.ties))
                net = net.untied(*pair)
            for position in [START] + some_positions(net, 3, seed):
                for turn in BOTH:
                    self.check_all(net, position, turn)

    def check_all(self, net, position, turn):
        wins = who_wins(net, position, turn)
        self.assertEqual(winner(net, position, turn), wins, (net.ties, position, turn))
        paper = game_paper(net, position, turn)
        self.assertTrue(is_right_paper(net, position, turn, paper), (net.ties, position, turn, paper))
        self.assertIs(is_game_paper(net, position, turn, paper), True)
        self.assertEqual(wins == "cutter", paper[0] == "bar")
        other = BOTH[1 - BOTH.index(turn)]
        best = [pair for pair in plain_free(net, position) if who_wins(net, after(position, turn, pair), other) == turn]
        found = best_move(net, position, turn)
        self.assertTrue(found in best if best else found is None, (net.ties, position, turn, found, best))
        self.assertEqual(wins == turn, bool(best) or not plain_free(net, position) and wins == turn)
        for pair in itertools.combinations(net.places, 2):
            self.assertIs(is_best_move(net, position, turn, pair), pair in best)
        self.assertIs(is_best_move(net, position, turn, None), False)

    def test_all_papers(self):
        for net in (PATH, TWO, TRIPLE, RING, BARE, Net(tuple("abcd"), {("a", "b"): 2, ("b", "c"): 2, ("c", "d"): 1})):
            rows = [row for size in range(3) for row in itertools.combinations(sorted(net.ties), size)]
            for position in list(all_positions(net))[::5]:
                values = [("plan", first, second) for first in rows for second in rows]
                values += [("move", pair, *told[1:]) for pair in net.pairs for told in values]
                values += [("bar", parting) for parting in all_partings_of(net.places)]
                for turn in BOTH:
                    for value in values[::3]:
                        right = is_right_paper(net, position, turn, value)
                        self.assertIs(is_game_paper(net, position, turn, value), right, (position, turn, value))

    def test_edges(self):
        safe = ({}, {("a", "b"): 1, ("b", "c"): 1})
        self.assertEqual([game_paper(PATH, safe, turn) for turn in BOTH], [("plan", (), ())] * 2)
        self.assertIs(is_game_paper(PATH, safe, "keeper", ("move", ("a", "b"), (), ())), True)
        self.assertIs(is_game_paper(PATH, safe, "cutter", ("move", ("a", "b"), (), ())), False)
        self.assertIs(is_game_paper(PATH, safe, "keeper", ("plan", (("a", "b"),), ())), True)
        self.assertIs(is_game_paper(PATH, safe, "keeper", ("plan", (("a", "b"),), (("a", "b"),))), False)
        # There is a plan, but Keeper is to move: a move has to be told.
        double = PATH.joined("b", "c")
        self.assertIs(is_game_paper(double, START, "cutter", ("plan", (("a", "b"), ("b", "c")), (("a", "b"), ("b", "c")))), True)
        self.assertIs(is_game_paper(double, START, "keeper", ("plan", (("a", "b"), ("b", "c")), (("a", "b"), ("b", "c")))), False)
        for turn in BOTH:
            self.assertEqual((winner(POINT, START, turn), best_move(POINT, START, turn)), ("keeper", None))
            self.assertEqual(game_paper(POINT, START, turn), ("plan", (), ()))
            self.assertEqual((winner(BARE, START, turn), best_move(BARE, START, turn)), ("cutter", None))
            self.assertEqual((winner(APART, START, turn), game_paper(APART, START, turn)[0]), ("cutter", "bar"))
        self.assertEqual([winner(CROWD, START, turn) for turn in BOTH], ["keeper"] * 2)
        # A forest of the net may go round together with safe ties.
        round_safe = ({}, {("a", "b"): 1})
        full = (("a", "b"), ("b", "c"))
        self.assertIs(is_game_paper(PATH.joined("b", "c"), round_safe, "cutter", ("plan", full, (("b", "c"),))), True)

    def test_one_thing_changed(self):
        rows = ((PATH, START, "keeper"), (TWO, START, "cutter"), (RING, START, "cutter"), (PATH, ({}, {("b", "c"): 1}), "cutter"),
                (TRIPLE, START, "cutter"), (FULL, ({}, {("a", "b"): 1}), "keeper"), (POINT, START, "cutter"))
        for net, position, turn in rows:
            for value in changed_values(game_paper(net, position, turn)):
                right = is_right_paper(net, position, turn, value)
                self.assertIs(is_game_paper(net, position, turn, value), right, (net.ties, position, turn, value))

    def test_no_move_helps_who_loses(self):
        for seed, net in enumerate(mixed_nets(25, 202) + [SEVEN, SIXTY, CROWD]):
            for position in some_positions(net, 2, seed):
                for turn, other in (BOTH, BOTH[::-1]):
                    if winner(net, position, turn) == other:
                        self.assertIsNone(best_move(net, position, turn))
                        for pair in plain_free(net, position):
                            self.assertEqual(winner(net, after(position, turn, pair), other), other)


class TestRefusals(Refusals, unittest.TestCase):
    def told(self):
        wrong = [(value, (InvalidOperation, None)) for value in ODD_VALUES + (
            ({("a", "b"): 2}, {("a", "b"): 1}), ({("a", "b"): True}, {}), ({("a", "c"): 1}, {}), [{}, {}], ({}, {("b", "c"): 0}),
            ({}, {}, {})) if not is_right_position(PATH, value)]
        return [("net", PATH, wrong_nets()), ("position", START, wrong)]

    def test_positions(self):
        self.check_refusals(free, self.told())

    def test_turns(self):
        wrong = [(value, (InvalidOperation, None)) for value in ODD_VALUES + ("Cutter", "keeper ", "cut", ("cutter",))]
        told = self.told() + [("turn", "keeper", wrong)]
        for call in (winner, game_paper, best_move):
            self.check_refusals(call, told)
        for judge, value in ((is_game_paper, game_paper(PATH, START, "keeper")), (is_game_paper, None),
                             (is_best_move, ("b", "c")), (is_best_move, None)):
            self.check_refusals(lambda net, position, turn: judge(net, position, turn, value), told)

    def test_judges_take_every_value(self):
        for net in (PATH, TWO, POINT, BARE, RING):
            right = [value for value in ODD_VALUES if is_right_position(net, value)]
            self.check_judge(is_position, net, right=right)
            for turn in BOTH:
                self.check_judge(is_game_paper, net, START, turn)
                other, ab = BOTH[1 - BOTH.index(turn)], ("a", "b")
                best = ab in net.ties and who_wins(net, after(START, turn, ab), other) == turn
                self.check_judge(is_best_move, net, START, turn, right=[ab] if best else [])
        for value in (None, START):
            self.check_refusals(lambda net: is_position(net, value), [("net", PATH, wrong_nets())])


class TestPlay(Refusals, unittest.TestCase):
    def test_a_play(self):
        play = Play(PATH)
        self.assertEqual((play.net, play.position, play.turn, play.moves, play.winner), (PATH, START, "cutter", (), "cutter"))
        self.assertEqual((len(play), list(play), str(play)), (0, [], "play of 0 moves, cutter wins"))
        self.assertEqual(play.move("c", "b"), "cutter")
        self.assertEqual((play.turn, play.moves, play.position), ("keeper", (("b", "c"),), ({("b", "c"): 1}, {})))
        self.assertEqual(play.reply(), ("a", "b"))
        self.assertEqual((play.turn, play.winner, len(play)), ("cutter", "cutter", 2))
        self.assertEqual(play.reply(), ("a", "b"))
        self.assertEqual((play.turn, play.reply(), play.winner, len(play)), (None, None, "cutter", 3))
        self.assertEqual(list(play), [("b", "c"), ("a", "b"), ("a", "b")])
        self.assertEqual(play.position, ({("a", "b"): 1, ("b", "c"): 1}, {("a", "b"): 1}))
        self.assertEqual((play.undo(many=2), play.turn, play.moves), (1, "keeper", (("b", "c"),)))
        self.assertEqual((play.undo(many=0), play.undo(), play.turn, play.undo(many=0)), (1, 0, "cutter", 0))

    def test_histories(self):
        numbers = random.Random(203)
        for net in TINY + (FULL, PAIRED, APART) + tuple(mixed_nets(6, 204)):
            play, moves = Play(net), []
            for _ in range(14):
                self.check_state(play, net, moves)
                loose = sorted(plain_free(net, position_of(moves)))
                if loose and numbers.random() < 0.6:
                    pair = numbers.choice(loose)
                    moves.append(pair)
                    self.assertEqual(play.move(*pair[::numbers.choice((1, -1))]), play.winner)
                elif numbers.random() < 0.5:
                    many = numbers.randrange(len(moves) + 1)
                    moves = moves[:len(moves) - many]
                    self.assertEqual(play.undo(many=many), len(moves))
                else:
                    self.check_reply(play, net, moves)

    def check_state(self, play, net, moves):
        position = position_of(moves)
        loose = plain_free(net, position)
        self.assertTrue(same(play.position, tuple({p: c[p] for p in sorted(c)} for c in position)))
        self.assertEqual(play.turn, BOTH[len(moves) % 2] if loose else None)
        self.assertEqual((play.moves, len(play), list(play)), (tuple(moves), len(moves), moves))
        wins = winner(net, position, BOTH[len(moves) % 2])
        self.assertEqual((play.winner, str(play)), (wins, f"play of {len(moves)} moves, {wins} wins"))

    def check_reply(self, play, net, moves):
        position, turn = position_of(moves), play.turn
        pair = play.reply()
        loose = plain_free(net, position)
        if not loose:
            self.assertIsNone(pair)
            return
        moves.append(pair)
        if winner(net, position, turn) == turn:
            self.assertIs(is_best_move(net, position, turn, pair), True)
        else:
            self.assertEqual(pair, min(loose))

    def test_branches_and_equality(self):
        play = Play(FULL)
        play.move("a", "b")
        branch = play.branch()
        self.assertTrue(branch == play and not branch != play and branch is not play)
        branch.reply()
        self.assertEqual((len(play), len(branch), branch == play, branch != play), (1, 2, False, True))
        play.undo()
        self.assertEqual((len(branch), branch.moves[0]), (2, ("a", "b")))
        self.assertFalse(play == Play(RING))
        self.assertTrue(Play(FULL) == Play(Net.full(("d", "a", "b", "c"))))
        for value in ODD_VALUES + (FULL, (), 0):
            self.assertIs(Play(FULL) == value, False)
            self.assertIs(Play(FULL) != value, True)
        # The same moves in another order are other moves.
        one, other = Play(FULL), Play(FULL)
        for first, second in ((("a", "b"), ("c", "d")), (("b", "c"), ("a", "d"))):
            one.move(*first), one.move(*second)
            other.move(*second), other.move(*first)
        self.assertFalse(one == other)

    def test_nothing_gives_access(self):
        play = Play(PATH)
        play.reply()
        gone, safe = play.position
        gone.clear()
        safe[("a", "b")] = 7
        self.assertEqual(play.position, ({play.moves[0]: 1}, {}))
        play.net.ties.clear()
        self.assertEqual(play.net, PATH)

    def test_whole_plays(self):
        numbers = random.Random(205)
        for net in [FULL, RING, TRIPLE, TWO, PAIRED, SEVEN] + mixed_nets(12, 206):
            keeper_wins = len(net.places) == 1 or most_trees(net) >= 2
            for _ in range(2):
                play = Play(net)
                while play.turn is not None:
                    self.assertEqual(play.winner, "keeper" if keeper_wins else "cutter")
                    if (play.turn == "keeper") == keeper_wins:
                        play.reply()
                    else:
                        play.move(*numbers.choice(sorted(plain_free(net, play.position))))
                joined = are_joined(net.places, list(play.position[1]))
                self.assertEqual((joined, play.winner), (keeper_wins, "keeper" if keeper_wins else "cutter"))

    def test_sixty_ties(self):
        play = Play(SIXTY)
        while play.turn is not None:
            play.reply()
        self.assertEqual((len(play), play.winner), (60, "keeper"))
        self.assertEqual(play.undo(many=60), 0)

    def test_refusals(self):
        self.check_refusals(Play, [("net", PATH, wrong_nets())])
        play = Play(PATH)
        play.move("b", "c")
        before = play.branch()
        unknown = [(value, (UnknownPlace, value)) for value in ODD_VALUES if value not in ("a", "b")]
        self.check_refusals(play.move, [("one", "a", unknown), ("other", "b", unknown + [("a", (InvalidOperation, None))])][:1]
                            + [("other", "a", unknown + [("a", (InvalidOperation, None))])])
        self.assertEqual(raised(play.move, "c", "b"), (Refused, ("b", "c")))
        self.assertEqual(raised(play.move, "c", "a"), (Refused, ("a", "c")))
        self.assertEqual(raised(play.move, "c", "c"), (InvalidOperation, None))
        self.assertEqual(raised(play.move, "q", "q"), (UnknownPlace, "q"))
        wrong = [(value, (InvalidNumber, value)) for value in ODD_VALUES if type(value) is not int or value < 0]
        wrong += [(value, (NothingToUndo, value)) for value in (2, HUGE)]
        self.check_refusals(play.undo, [("many", 1, wrong)], named=("many",))
        self.assertTrue(same(raised(play.undo, many=True)[1], True))
        self.assertEqual(play, before)
        with self.assertRaises(TypeError):
            play.undo(1)
        over = Play(Net(("a", "b"), {("a", "b"): 1}))
        over.reply()
        self.assertEqual(raised(over.move, "a", "b"), (Refused, ("a", "b")))
        self.assertEqual(raised(Play(POINT).undo), (NothingToUndo, 1))


def position_of(moves):
    position = START
    for at, pair in enumerate(moves):
        position = after(position, BOTH[at % 2], pair)
    return position


if __name__ == "__main__":
    unittest.main()
