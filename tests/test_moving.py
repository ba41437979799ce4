"""9.1 and 9.2: coins that are moved."""

import random
import unittest
from itertools import product

from anyworths.errors import BadMove, BadSplit, BadSplits
from anyworths.moving import after_moves, fewest_moved, moves_between
from tests.roads import Case, at_once, handed, listed, pool_by_purses, pools_up_to, splits_in_order

COIN = 10 ** 9
SPLIT = ((2,), (), (1, 1))
POOLS = [(pool, people) for pool in pools_up_to(3, 2) for people in (1, 2, 3)] + [
    ((1, 1, 1, 2), 3), ((1, 1, 2, 2), 2), ((1, 2, 3), 3), ((1, 1), 4), ((1, 2), 4), ((1, 1), 5),
]


def moved(split, move):
    coin, giver, taker = move
    return handed(split, giver, taker, (coin,), ())


def steps_by_moves(split):
    """How many moves of one coin lead to each split, at least."""
    steps = {split: 0}
    rows = [split]
    for now in rows:
        for giver, taker in product(range(len(split)), repeat=2):
            for coin in set(now[giver]) if giver != taker else ():
                there = moved(now, (coin, giver, taker))
                if there not in steps:
                    steps[there] = steps[now] + 1
                    rows.append(there)
    return steps


def moves_by_words(split, other):
    """The moves of the document, worth by worth."""
    moves = []
    for coin in sorted(set(pool_by_purses(split))):
        more = [purse.count(coin) - there.count(coin) for purse, there in zip(split, other)]
        givers = [person for person, many in enumerate(more) for _ in range(many)]
        takers = [person for person, many in enumerate(more) for _ in range(-many)]
        moves += [(coin, giver, taker) for giver, taker in zip(givers, takers)]
    return tuple(moves)


class Fewest(Case):
    def test_no_row_of_moves_is_shorter(self):
        for pool, people in POOLS:
            splits = splits_in_order(pool, people)
            for split in splits:
                steps = steps_by_moves(split)
                self.assertEqual(set(steps), set(splits))
                for other in splits:
                    self.same(fewest_moved(listed(split), other), steps[other])

    def test_it_is_a_distance(self):
        for pool, people in POOLS:
            splits = splits_in_order(pool, people)[::2]
            far = {(one, other): fewest_moved(one, other) for one, other in product(splits, repeat=2)}
            for one, other in far:
                self.assertEqual(far[one, other] == 0, one == other)
                self.assertEqual(far[one, other], far[other, one])
                for third in splits[::3]:
                    self.assertLessEqual(far[one, other], far[one, third] + far[third, other])

    def test_moves_lead_there(self):
        for pool, people in POOLS:
            splits = splits_in_order(pool, people)
            for split, other in product(splits, repeat=2):
                moves = moves_between(listed(split), other)
                self.same(moves, moves_by_words(split, other))
                self.assertEqual(len(moves), fewest_moved(split, other))
                self.assertEqual(after_moves(split, moves), other)

    def test_some_moves(self):
        self.same(moves_between([[2], [], [1, 1]], [[1], [2], [1]]), ((1, 2, 0), (2, 0, 1)))
        self.same(moves_between(((1, 1, 1), (1,), (), ()), ((), (), (1, 1), (1, 1))), (
            (1, 0, 2), (1, 0, 2), (1, 0, 3), (1, 1, 3)))
        self.same(moves_between(SPLIT, SPLIT), ())
        self.same(moves_between(((),), ((),)), ())
        self.assertEqual(fewest_moved(SPLIT, ((1, 1), (), (2,))), 3)
        self.assertEqual(fewest_moved(((COIN,) * 12, ()), ((), (COIN,) * 12)), 12)

    def test_the_errors_in_their_order(self):
        for function in (fewest_moved, moves_between):
            self.fails(BadSplit, (0, "many"), function, (), None)
            self.fails(BadSplit, (1, "purse"), function, SPLIT, ((), None))
            for other in ((), ((1,),) * 6, None):
                self.fails(BadSplit, (0, "many"), function, SPLIT, other)
            for other in (((2,), (1, 1)), ((1, 1, 2),), ((2,), (), (1,), (1,)), ((5,), ())):
                self.fails(BadSplits, ("people",), function, SPLIT, other)
            for other in (((2,), (), (1,)), ((2,), (), (2,)), ((1, 1, 1, 1), (), ()), ((), (), ())):
                self.fails(BadSplits, ("pool",), function, SPLIT, other)


class After(Case):
    def test_moves_one_after_another(self):
        chance = random.Random(3)
        for pool, people in POOLS:
            for split in splits_in_order(pool, people)[::5]:
                moves, now = [], split
                for _ in range(chance.randint(0, 8)):
                    able = [
                        (coin, giver, taker) for giver, taker in product(range(people), repeat=2) if giver != taker
                        for coin in now[giver]
                    ]
                    if able:
                        moves.append(chance.choice(able))
                        now = moved(now, moves[-1])
                self.same(after_moves(listed(split), listed(moves)), now)
                self.assertLessEqual(fewest_moved(split, now), len(moves))

    def test_each_word(self):
        for moves in (None, 0, "", {}, ((2, 0, 1), (2, 1, 0)) * 51, [None] * 101, range(3)):
            self.fails(BadMove, (0, "many"), after_moves, SPLIT, moves)
        for move in (None, 0, "201", (), (2, 0), (2, 0, 1, 0), (True, 2, 0), (1, 2, False), (1, "2", 0), (1.0, 2, 0),
                     (None, 2, 0), {2, 0, 1}, ((1,), 2, 0), (1, 2, None), (True, 9, 9)):
            self.fails(BadMove, (0, "move"), after_moves, SPLIT, [move, None])
            self.fails(BadMove, (2, "move"), after_moves, SPLIT, ((2, 0, 1), [2, 1, 0], move))
        for move in ((2, 0, 0), (2, 3, 0), (2, 0, 3), (2, -3, 0), (2, 0, -1), (9, 5, 6)):
            self.fails(BadMove, (1, "persons"), after_moves, SPLIT, ((2, 0, 1), move, None))
        for move in ((2, 0, 1), (1, 0, 1), (0, 2, 1), (-1, 2, 1), (2, 2, 1), (10 ** 40, 2, 0)):
            self.fails(BadMove, (1, "coin"), after_moves, SPLIT, ((2, 0, 2), move, None)
                       if move != (2, 2, 1) else ((1, 2, 0), move, None))
        self.fails(BadMove, (2, "coin"), after_moves, SPLIT, ((1, 2, 0), (1, 2, 0), (1, 2, 0)))
        self.fails(BadMove, (0, "persons"), after_moves, ((1,),), ((1, 0, 0),))
        self.fails(BadSplit, (0, "many"), after_moves, (), None)

    def test_none_and_one_hundred_moves(self):
        self.same(after_moves([[2], [], [1, 1]], []), SPLIT)
        self.same(after_moves(SPLIT, ((2, 0, 1), (2, 1, 0)) * 50), SPLIT)
        self.same(after_moves(SPLIT, [[2, 0, 1], [2, 1, 0]] * 49 + [[2, 0, 1]]), ((), (2,), (1, 1)))
        self.fails(BadMove, (99, "coin"), after_moves, SPLIT, ((2, 0, 1), (2, 1, 0)) * 49 + ((2, 0, 1), (2, 0, 1)))

    def test_twelve_coins_are_answered_at_once(self):
        with at_once():
            coins = tuple(COIN - 3 ** at for at in range(12))
            one, other = (coins[:6], coins[6:], (), (), ()), ((), (), coins[:2], coins[2:9], coins[9:])
            self.assertEqual(fewest_moved(one, other), 12)
            self.assertEqual(after_moves(one, moves_between(one, other)), tuple(
                tuple(sorted(purse)) for purse in other))


if __name__ == "__main__":
    unittest.main()
