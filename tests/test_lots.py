"""1.2 and 1.3: lots, their sums, and what is left without one."""

import unittest
from collections import Counter

from anyworths.errors import BadLot, BadPool
from anyworths.lots import all_lots, count_lots, has_lot, joined_pools, less_lot, lot_with, lots_with, sums_of
from tests.roads import Case, at_once, lot_key, lots_by_masks, pools_up_to

COIN = 10 ** 9
AMOUNT = 12 * 10 ** 9
SMALL = pools_up_to(5, 4) + [(1, 2, 4, 8, 16, 32), (2,) * 7, (1, 1, 5, 5, 5, 9, 9), (COIN - 1, COIN, COIN)]
GREAT = tuple(range(COIN - 11, COIN + 1))


class Lots(Case):
    def test_the_example_of_the_document(self):
        self.assertEqual(list(all_lots([2, 1, 1])), [(), (1,), (2,), (1, 1), (1, 2), (1, 1, 2)])
        self.same(sums_of([2, 1, 1]), (0, 1, 2, 3, 4))

    def test_no_coins_have_the_empty_lot(self):
        self.assertEqual(list(all_lots(())), [()])
        self.assertEqual(count_lots([]), 1)
        self.same(sums_of(()), (0,))
        self.same(lot_with((), 0), ())
        self.assertIsNone(lot_with((), 1))

    def test_all_lots_once_in_the_order_of_lots(self):
        for pool in SMALL:
            lots = list(all_lots(pool[::-1]))
            self.assertEqual(lots, sorted(lots_by_masks(pool), key=lot_key))
            self.assertEqual((lots[0], lots[-1]), ((), pool))
            self.assertEqual(count_lots(pool), len(lots))

    def test_lots_with_a_sum(self):
        for pool in SMALL:
            by_masks = sorted(lots_by_masks(pool), key=lot_key)
            for amount in range(min(sum(pool), 40) + 2):
                wanted = [lot for lot in by_masks if sum(lot) == amount]
                self.assertEqual(list(lots_with(list(pool), amount)), wanted)
                self.assertEqual(lot_with(pool, amount), wanted[0] if wanted else None)

    def test_the_first_lot_has_the_fewest_coins(self):
        self.same(lot_with([1, 1, 2, 3, 3, 4], 6), (2, 4))
        self.same(lot_with([1, 1, 2, 3, 4, 6], 6), (6,))

    def test_sums(self):
        for pool in SMALL:
            self.same(sums_of(pool), tuple(sorted({sum(lot) for lot in lots_by_masks(pool)})))

    def test_twelve_great_coins(self):
        with at_once():
            self.assertEqual(count_lots(GREAT), 4096)
            self.assertEqual(len(set(all_lots(GREAT))), 4096)
            self.assertEqual(sums_of([COIN] * 12), tuple(COIN * many for many in range(13)))
            self.assertEqual(lot_with(GREAT, sum(GREAT)), GREAT)
            self.assertIsNone(lot_with(GREAT, AMOUNT))
            self.assertEqual(list(lots_with([COIN] * 12, AMOUNT)), [(COIN,) * 12])
            self.assertEqual(list(lots_with([COIN] * 12, 0)), [()])


class Rests(Case):
    def test_lots_within_a_pool(self):
        for pool in pools_up_to(4, 3):
            within = lots_by_masks(pool)
            for lot in pools_up_to(4, 4):
                self.assertIs(has_lot(pool[::-1], list(lot)), lot in within)

    def test_the_rest_without_a_lot(self):
        for pool in pools_up_to(4, 3):
            for lot in pools_up_to(4, 4):
                if has_lot(pool, lot):
                    rest = less_lot(list(pool), lot[::-1])
                    self.same(rest, tuple(sorted((Counter(pool) - Counter(lot)).elements())))
                else:
                    self.fails(BadLot, (), less_lot, pool, lot)

    def test_both_pools_are_checked_ahead(self):
        self.fails(BadPool, (0, "coin"), less_lot, (0,), (5,))
        self.fails(BadPool, (1, "coin"), less_lot, (1,), (5, 0))
        self.fails(BadPool, (1, "coin"), has_lot, (1,), (1, COIN + 1))

    def test_joined_pools(self):
        self.same(joined_pools([3, 1], (2, 1)), (1, 1, 2, 3))
        self.same(joined_pools((), []), ())
        self.same(joined_pools([COIN] * 6, [1] * 6), (1,) * 6 + (COIN,) * 6)

    def test_joined_pools_of_more_than_twelve_coins(self):
        self.same(joined_pools([1] * 12, ()), (1,) * 12)
        self.fails(BadPool, (0, "many"), joined_pools, [1] * 7, [1] * 6)
        self.fails(BadPool, (0, "many"), joined_pools, [1] * 12, [1])
        self.fails(BadPool, (5, "coin"), joined_pools, [1] * 12, [1] * 5 + [0])


if __name__ == "__main__":
    unittest.main()
