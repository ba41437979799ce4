"""8.8 and 8.9: newcomers."""

import unittest
from itertools import product

from anyworths.coming import Halts, come_all, comes, takes_over
from anyworths.errors import BadAmount, BadLots, BadPeople, BadPool
from anyworths.leaving import leaves, lots_leaving
from anyworths.nextcoins import fitting_coins
from anyworths.serving import Unserved, serves
from tests.roads import Case, at_once, listed, lots_in_order, pools_up_to, rest_by_counts, serves_by_formula

COIN = 10 ** 9
POOLS = pools_up_to(3, 4) + [(1, 1, 2, 3), (1, 1, 1, 1), (2, 2, 2, 2), (1, 2, 4, 8), (1, 1, 2, 3, 4)]
LOTS = pools_up_to(2, 4) + [(1, 1, 1), (1, 2, 3), (5,), (9,)]


def joined(*pools):
    return tuple(sorted(sum(pools, ())))


class Comes(Case):
    def test_both_together_serve_one_more(self):
        for pool, lot, people in product(POOLS, LOTS, range(1, 5)):
            told = comes(list(pool)[::-1], people, list(lot)[::-1])
            self.assertEqual(told is None, serves_by_formula(joined(pool, lot), people + 1))
            if told is not None:
                self.same(told, serves(joined(pool, lot), people + 1))

    def test_one_coin(self):
        asked = 0
        for pool, people in product(POOLS, range(1, 5)):
            fitting = fitting_coins(pool, people + 1)
            for coin in range(1, 20):
                fits = fitting is not None and fitting[0] <= coin <= fitting[1]
                self.assertEqual(comes(pool, people, (coin,)) is None, fits)
                asked += fits
        self.assertGreater(asked, 0)

    def test_whoever_leaves_can_come_back(self):
        for pool, people in product(POOLS, range(2, 6)):
            if serves(pool, people) is None:
                for worth in range(sum(pool) + 1):
                    for lot in lots_leaving(pool, people - 1, worth):
                        self.assertIsNone(comes(rest_by_counts(pool, lot), people - 1, lot))

    def test_the_errors_in_their_order(self):
        self.fails(BadPool, (0, "coin"), comes, [0], 0, None)
        for people in (0, 5, 6, True, None, "1"):
            self.fails(BadPeople, (), comes, [1], people, None)
        self.fails(BadPool, (0, "many"), comes, [1], 4, None)
        self.fails(BadPool, (1, "coin"), comes, (1,) * 12, 4, (1, 0))
        self.fails(BadPool, (0, "many"), comes, (1,) * 12, 4, (1,))
        self.fails(BadPool, (0, "many"), comes, (1,) * 6, 4, (1,) * 7)
        self.assertIsNone(comes((1,) * 6, 4, (1,) * 6))
        self.assertIsNone(comes((1,) * 12, 4, ()))
        self.assertIsNone(comes((), 4, ()))


class ComeAll(Case):
    def test_one_after_another(self):
        halted = {}
        for pool, people in product(POOLS[::3], range(1, 6)):
            for many in range(min(3, 5 - people) + 1):
                for lots in list(product(LOTS, repeat=many))[::1 if many < 2 else 11 ** (many - 1)]:
                    wanted, together = None, pool
                    for place, lot in enumerate(lots):
                        together = joined(together, lot)
                        unserved = serves(together, people + place + 1)
                        if unserved is not None:
                            wanted = Halts(place, unserved)
                            break
                    self.same(come_all(list(pool)[::-1], people, listed(lots)), wanted)
                    if wanted:
                        halted[wanted.place] = halted.get(wanted.place, 0) + 1
        self.assertEqual(sorted(halted), [0, 1, 2])

    def test_some_rows(self):
        self.assertIsNone(come_all([2, 1, 1], 1, [[], [1], [1], [1]]))
        self.same(come_all((1,), 1, ((1,), (3,), (1,))), Halts(1, serves((1, 1, 3), 3)))
        self.same(come_all((2,), 4, ((),)), Halts(0, Unserved(0, (1, 1, 0, 0, 0))))
        # No newcomer, whether the pool serves or not.
        for people in range(1, 6):
            self.assertIsNone(come_all((5, 5), people, ()))
        self.assertIsNone(come_all((1,) * 4, 1, [(1,) * 2] * 4))

    def test_the_errors_in_their_order(self):
        self.fails(BadPool, (0, "coin"), come_all, [0], 0, None)
        for people in (0, 6, True, None):
            self.fails(BadPeople, (), come_all, [1], people, None)
        for lots in (None, 0, "", {}, ((),) * 5, [None] * 5, range(2)):
            self.fails(BadLots, (0,), come_all, [1], 1, lots)
        for people in range(1, 6):
            self.assertIsNone(come_all([1] * 5, people, ((),) * (5 - people)))
            self.fails(BadLots, (0,), come_all, [1] * 5, people, ((),) * (6 - people))
        for wrong in (None, 1, "1", (0,), (True,), [None], (1,) * 13, {1}):
            self.fails(BadLots, (0,), come_all, [1], 1, (wrong, None))
            # All lots are checked before anybody comes, or does not.
            self.fails(BadLots, (2,), come_all, (9,), 1, ((), (), wrong, None))
        self.fails(BadLots, (0,), come_all, (1,) * 12, 4, ((1,),))
        self.fails(BadLots, (1,), come_all, (9,) * 8, 1, [(1,) * 4, (1,), None])
        self.fails(BadLots, (1,), come_all, (1,) * 8, 1, [(1,) * 4, (1,) * 12])
        self.assertIsNone(come_all((1,) * 8, 1, [(1,) * 4, ()]))


class TakesOver(Case):
    def test_the_first_lot_whose_rest_serves_with_the_newcomers(self):
        found = {}
        for pool, lot, people in product(POOLS[::2], LOTS, range(1, 6)):
            for worth in range(sum(pool) + 1):
                lots = [
                    taken for taken in lots_in_order(pool)
                    if sum(taken) == worth and serves_by_formula(joined(rest_by_counts(pool, taken), lot), people)
                ]
                told = takes_over(list(pool)[::-1], people, worth, list(lot)[::-1])
                self.same(told, lots[0] if lots else None)
                if lot == ():
                    self.assertEqual([told][:len(lots)], list(lots_leaving(pool, people, worth))[:1])
                found[bool(lots)] = True
        self.assertEqual(len(found), 2)

    def test_at_most_twelve_coins_together(self):
        twelve = (1,) * 12
        self.assertIsNone(takes_over(twelve, 3, 0, (1,)))
        self.same(takes_over(twelve, 3, 1, (1,)), (1,))
        self.assertIsNone(takes_over(twelve, 3, 1, (1, 1)))
        self.same(takes_over(twelve, 5, 12, twelve), twelve)
        # The first lot with this worth has too few coins.
        self.same(takes_over((1,) * 10 + (2, 2), 3, 2, (1, 1)), (1, 1))
        self.same(takes_over((1,) * 10 + (2, 2), 3, 2, (1,)), (2,))

    def test_the_errors_in_their_order(self):
        self.fails(BadPool, (0, "coin"), takes_over, [0], 0, None, None)
        for people in (0, 6, True, None):
            self.fails(BadPeople, (), takes_over, [1], people, None, None)
        for worth in (None, True, -1, 2, "1", 1.0):
            self.fails(BadAmount, (), takes_over, [1], 5, worth, None)
        self.fails(BadPool, (0, "many"), takes_over, [1], 5, 1, None)
        self.fails(BadPool, (1, "coin"), takes_over, [1], 5, 1, [1, 0])

    def test_twelve_coins_are_answered_at_once(self):
        with at_once():
            coins = tuple(COIN - 3 ** at for at in range(12))
            self.assertIsNone(takes_over(coins, 5, sum(coins[:6]), (1,) * 6))
            self.same(takes_over(coins, 1, sum(coins[:6]), (COIN,) * 6), tuple(sorted(coins[:6])))
            self.assertEqual(comes(coins[:6], 1, coins[6:]), serves(coins, 2))
            self.assertEqual(leaves((1,) * 12, 5, 7), (1,) * 7)


if __name__ == "__main__":
    unittest.main()
