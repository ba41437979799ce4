"""3.10 to 3.12: coins that may be put to a pool, and those that mend it."""

import unittest
from itertools import combinations_with_replacement

from anyworths.errors import BadCoin, BadPeople, BadPool
from anyworths.leastpools import room_of
from anyworths.nextcoins import fitting_coins, may_put, mending_coins, next_coin, room_row
from tests.roads import Case, at_once, pools_up_to, serves_by_formula, wishes_by_bars, worths_by_owners

COIN = 10 ** 9
PEOPLE = range(2, 6)
SMALL = [(pool, people) for pool in pools_up_to(4, 6) for people in PEOPLE]
GREAT = tuple(range(COIN - 11, COIN + 1))


class NextCoins(Case):
    def test_rooms_of_the_sums_ahead(self):
        self.same(room_row([3, 1, 1], 3), (1, 1, 2, 3))
        self.same(room_row((), 5), (1,))
        self.same(room_row([COIN] * 12, 2), tuple(COIN * many + 1 for many in range(13)))
        for pool, people in SMALL:
            wanted = tuple(room_of(sum(pool[:many]), people) for many in range(len(pool) + 1))
            self.same(room_row(pool[::-1], people), wanted)

    def test_the_example_of_the_document(self):
        self.same(fitting_coins((1, 1, 3), 3), (2, 2))
        self.same(mending_coins((4,), 2), (1, 2))

    def test_coins_that_together_with_the_pool_serve(self):
        for pool, people in SMALL:
            fitting = [coin for coin in range(1, 40) if serves_by_formula(pool + (coin,), people)]
            told = fitting_coins(pool[::-1], people)
            if fitting:
                self.same(told, (fitting[0], fitting[-1]))
                self.assertEqual(fitting, list(range(fitting[0], fitting[-1] + 1)))
            else:
                self.assertIsNone(told)
            self.assertEqual(next_coin(list(pool), people), fitting[-1] if fitting else None)
            for coin in range(1, 40):
                self.assertIs(may_put(pool[::-1], coin, people), coin in fitting)

    def test_coins_that_may_be_put_serve_every_wish(self):
        for pool in pools_up_to(3, 3):
            for people in (2, 3):
                for coin in range(1, 6):
                    more = pool + (coin,)
                    served = len(worths_by_owners(more, people)) == len(wishes_by_bars(sum(more), people))
                    self.assertEqual(may_put(pool, coin, people), served)

    def test_no_coins(self):
        for people in PEOPLE:
            self.same(fitting_coins((), people), (1, 1))
            self.assertEqual(next_coin((), people), 1)
            self.assertIs(may_put((), 1, people), True)
            self.assertIs(may_put((), 2, people), False)
            self.same(mending_coins((), people), ())

    def test_pools_of_twelve_coins_with_one_more(self):
        self.assertIs(may_put((1,) * 12, 13, 2), True)
        self.assertIs(may_put((1,) * 12, 14, 2), False)
        self.same(fitting_coins((1,) * 12, 2), (1, 13))
        self.same(fitting_coins((1,) * 12, 5), (1, 4))

    def test_coins_beyond_the_greatest(self):
        pool = [1 << place for place in range(11)] + [2048]
        self.same(fitting_coins(pool, 2), (1, 4096))
        doubled = [1] + [COIN] * 11
        self.assertIsNone(fitting_coins(doubled, 2))
        self.same(fitting_coins((COIN,), 2), None)
        self.assertIsNone(next_coin(GREAT, 5))

    def test_low_comes_from_any_coin_in_the_way(self):
        self.same(fitting_coins((1, 1, 1, 1, 6, 12), 2), (1, 5))
        self.same(fitting_coins((1, 1, 1, 6, 12), 2), (2, 4))
        self.same(fitting_coins((1, 1, 1, 5, 12), 2), (3, 4))
        self.assertIsNone(fitting_coins((1, 1, 1, 5, 14), 2))

    def test_coins_and_people_are_checked(self):
        self.fails(BadPool, (0, "coin"), may_put, (0,), 0, 1)
        self.fails(BadCoin, (), may_put, (1,), COIN + 1, 1)
        self.fails(BadCoin, (), may_put, (1,), True, 1)
        self.fails(BadPeople, (), may_put, (1,), COIN, 1)
        for function in (room_row, fitting_coins, next_coin, mending_coins):
            self.fails(BadPool, (0, "many"), function, [1] * 13, 1)
            self.fails(BadPeople, (), function, [1] * 12, 1)


class Mending(Case):
    def test_a_lot_of_the_fewest_coins_that_mends(self):
        for pool, people in [(pool, people) for pool in pools_up_to(3, 6) for people in PEOPLE]:
            lot = mending_coins(pool[::-1], people)
            self.same(lot, tuple(sorted(lot)))
            self.assertTrue(serves_by_formula(pool + lot, people))
            self.assertEqual(lot == (), serves_by_formula(pool, people))
            if 0 < len(lot) < 5:
                for fewer in combinations_with_replacement(range(1, max(pool) + 1), len(lot) - 1):
                    self.assertFalse(serves_by_formula(pool + fewer, people))

    def test_it_is_the_told_lot(self):
        self.same(mending_coins((4, 4), 2), (1, 2))
        self.same(mending_coins((1, 4), 2), (2,))
        self.same(mending_coins((1, 9, 40), 2), (2, 4, 8, 25))
        self.same(mending_coins((3,), 3), (1, 1, 2))
        self.same(mending_coins((3,), 5), (1, 1, 1, 1, 2, 2))
        self.same(mending_coins((2, 3, 100), 2), (1, 7, 14, 28, 56))

    def test_more_than_twelve_coins(self):
        with at_once():
            for people in PEOPLE:
                lot = mending_coins(GREAT, people)
                self.assertGreater(len(lot), 12)
                self.assertTrue(serves_by_formula(GREAT + lot, people))
                self.assertFalse(serves_by_formula(GREAT + lot[:-1], people))
        self.same(mending_coins((COIN,), 2), tuple(1 << place for place in range(30)))


if __name__ == "__main__":
    unittest.main()
