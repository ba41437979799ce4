"""8.7: people who leave with their own purse."""

import unittest

from anyworths.errors import BadPeople, BadPerson, BadSplit, TooMany
from anyworths.going import Gone, Kept, goes_with, may_go
from anyworths.pieces import piece_of
from anyworths.serving import serves
from tests.roads import Case, at_once, handed, has_list, least_exchanges, listed, piece_by_search, pool_by_purses
from tests.roads import serves_by_formula, small_splits, splits_in_order, steps_by_least
from tests.test_pieces import JUST_PIECES, MANY_PIECES

COIN = 10 ** 9
SPLIT = ((2,), (), (1, 1))
SPLITS = small_splits() + [
    split for pool, people in (((1, 1, 2, 2), 3), ((2, 2, 3, 3), 3), ((1, 2, 2, 3), 3), ((1, 1, 1, 2), 4),
                               ((1, 1, 2, 3, 4), 3), ((1, 1, 1, 1, 2), 4))
    for split in splits_in_order(pool, people)[::5]
]


def others_of(split, person):
    return tuple(purse for at, purse in enumerate(split) if at != person)


def goes_by_formula(split, person):
    others = others_of(split, person)
    return serves_by_formula(pool_by_purses(others), len(others))


class May(Case):
    def test_the_coins_of_the_others_serve_them(self):
        for split in SPLITS:
            for person in range(len(split)):
                if len(split) > 1:
                    self.assertIs(may_go(listed(split), person), goes_by_formula(split, person))
        self.assertIs(may_go([[2], [], [1, 1]], 0), True)
        self.assertIs(may_go(SPLIT, 2), False)
        self.assertIs(may_go(((5,), ()), 1), True)
        self.assertIs(may_go(((), ()), 0), True)

    def test_the_errors_in_their_order(self):
        for function in (may_go, goes_with):
            self.fails(BadSplit, (0, "many"), function, (), None)
            for person in (0, None, 1):
                self.fails(BadPeople, (), function, ((1, 1),), person)
            for person in (None, True, False, -1, 3, "0", 1.0, (0,)):
                self.fails(BadPerson, (), function, SPLIT, person)
        for split in MANY_PIECES:
            self.fails(BadPerson, (), goes_with, split, 5)


class Goes(Case):
    def test_as_few_exchanges_as_can_be(self):
        ahead, kept = 0, 0
        for split in SPLITS:
            steps = steps_by_least(split)
            for person in range(len(split) if len(split) > 1 else 0):
                ends = [there for there in steps if goes_by_formula(there, person)]
                told = goes_with(listed(split), person)
                if not ends:
                    self.same(told, Kept(piece_by_search(split)))
                    kept += 1
                    continue
                self.assertIsInstance(told, Gone)
                self.assertFalse(has_list(told))
                self.assertEqual(len(told.exchanges), min(steps[there] for there in ends))
                now = split
                for exchange in told.exchanges:
                    self.assertIn(exchange, least_exchanges(now))
                    now = handed(now, *exchange)
                self.assertIn(now, ends)
                self.same(told, Gone(told.exchanges, now[person], others_of(now, person)))
                ahead += len(told.exchanges) > 0
        self.assertGreater(ahead, 0)
        self.assertGreater(kept, 0)

    def test_everybody_goes_if_the_pool_serves(self):
        for split in SPLITS:
            if len(split) > 1 and serves(pool_by_purses(split), len(split)) is None:
                for person in range(len(split)):
                    self.assertIsInstance(goes_with(split, person), Gone)

    def test_some_splits(self):
        self.same(goes_with([[2], [], [1, 1]], 0), Gone((), (2,), ((), (1, 1))))
        self.same(goes_with(SPLIT, 2), Gone(((0, 2, (2,), (1, 1)),), (2,), ((1, 1), ())))
        self.same(goes_with(((2,), (2,), (1,)), 2), Kept((((2,), (2,), (1,)),)))
        # One who is left alone is always served.
        self.same(goes_with(((5,), (3, 3)), 0), Gone((), (5,), ((3, 3),)))

    def test_pieces_of_more_than_four_hundred_splits(self):
        for split in JUST_PIECES:
            told = goes_with(split, 0)
            goes = any(goes_by_formula(there, 0) for there in piece_of(split))
            self.assertEqual(isinstance(told, Gone), goes)
            self.assertTrue(goes or len(told.piece) == 400)
        for split in MANY_PIECES:
            for person in range(len(split)):
                self.fails(TooMany, (400,), goes_with, split, person)
        # Also if the person may go at once.
        split = ((3, 10), (2, 2, 7), (1, 4, 6), (1, 1, 3, 5))
        self.assertIs(may_go(split, 0), True)
        self.fails(TooMany, (400,), goes_with, split, 0)

    def test_twelve_coins_are_answered_at_once(self):
        with at_once():
            coins = tuple(COIN - 3 ** at for at in range(12))
            split = (coins[:4], coins[4:7], coins[7:])
            self.assertIs(may_go(split, 1), False)
            self.assertEqual(len(goes_with(split, 1).piece), 1)
            self.same(goes_with(((COIN,) * 12, (), ()), 0), Gone((), (COIN,) * 12, ((), ())))


if __name__ == "__main__":
    unittest.main()
