"""4.9 to 4.11: finer pools, broken coins and joined coins."""

import unittest
from itertools import product

from anyworths.errors import BadCoin, BadHeaps, BadLot, BadParts, BadPool
from anyworths.finer import broken_coin, finer_heaps, good_joins, heaps_fault, is_finer, joined_coins, led_split
from anyworths.finer import may_join
from anyworths.leastpools import all_least
from tests.roads import Case, at_once, bears_by_lots, lots_in_order, pool_by_purses, pools_up_to, rest_by_counts
from tests.roads import rows_of_coins, serves_by_formula, splits_in_order, worths_by_owners, worths_by_purses

COIN = 10 ** 9
SMALL = [row for total in range(8) for count in range(6) for row in rows_of_coins(count, total)]
COUPLES = [(one, other) for one in SMALL for other in SMALL if sum(one) == sum(other)]


def has_heaps(one, other):
    """Whether some owners of the one pool's coins make the other pool's coins."""
    return not other if not one else other in worths_by_owners(one, len(other))


class Finer(Case):
    def test_heaps_exist_exactly_if_the_pool_is_finer(self):
        for one, other in COUPLES:
            heaps = finer_heaps(one, other)
            self.assertEqual(heaps is not None, has_heaps(one, other), (one, other))
            self.assertIs(is_finer(one, other), heaps is not None)
            if heaps is not None:
                self.assertEqual(worths_by_purses(heaps), other)
                self.assertEqual(pool_by_purses(heaps), one)
                self.assertTrue(all(heap == tuple(sorted(heap)) for heap in heaps))
                self.assertIsNone(heaps_fault(one, other, heaps))

    def test_other_totals_are_never_finer(self):
        for one, other in product(SMALL[:40], SMALL[:40]):
            if sum(one) != sum(other):
                self.assertIsNone(finer_heaps(one, other))
                self.assertIs(is_finer(one, other), False)

    def test_heaps_of_some_pools(self):
        self.same(finer_heaps([1, 1, 1], [2, 1]), ((1,), (1, 1)))
        self.same(finer_heaps((), ()), ())
        self.assertIsNone(finer_heaps((), (1,)))
        self.assertIsNone(finer_heaps((1,), ()))
        self.assertIsNone(finer_heaps((2, 2), (1, 3)))
        self.assertIsNone(finer_heaps((3, 3), (2, 2, 2)))
        # The greatest coins in the greatest heaps would leave 2 2 2 for the heaps of 3.
        self.same(finer_heaps((2, 2, 2, 3, 3), (6, 6)), finer_heaps([3, 2, 3, 2, 2], [6, 6]))

    def test_a_finer_pool_has_the_splits_and_bears_the_losses(self):
        for one, other in COUPLES:
            if finer_heaps(one, other) is None:
                continue
            for people in (1, 2, 3):
                self.assertLessEqual(worths_by_owners(other, people), worths_by_owners(one, people))
                for lost in range(4):
                    if bears_by_lots(other, people, lost):
                        self.assertTrue(bears_by_lots(one, people, lost))

    def test_great_coins_are_answered_at_once(self):
        with at_once():
            coins = tuple(COIN - 2 ** at for at in range(12))
            self.assertIsNone(finer_heaps(coins, (COIN,) * 11 + (COIN - 2 ** 12 + 1,)))
            self.assertIsNone(finer_heaps(coins, (sum(coins) // 12,) * 11 + (sum(coins) - sum(coins) // 12 * 11,)))
            self.assertEqual(finer_heaps(coins, coins), tuple((coin,) for coin in sorted(coins)))
            even = tuple(range(100, 112))
            self.assertIsNone(heaps_fault(even, (211,) * 6, finer_heaps(even, (211,) * 6)))
            # Four odd heaps would need four odd coins.
            self.assertIsNone(finer_heaps((2,) * 5 + (4,) * 5 + (3, 5), (7, 7, 7, 17)))
            self.assertIsNone(finer_heaps(tuple(range(100, 124, 2)), (333,) * 4))
            # Nothing odd comes of even coins, in whatever order they are put.
            self.assertIsNone(finer_heaps(tuple(range(2, 26, 2)), (77, 79)))
            self.assertIsNone(finer_heaps(tuple(range(2, 26, 2)), (1, 77, 78)))

    def test_each_word_of_the_judge(self):
        one, other = (1, 1, 2, 3), (3, 4)
        self.assertIsNone(heaps_fault(one, other, ((1, 2), (1, 3))))
        self.assertIsNone(heaps_fault([3, 2, 1, 1], [4, 3], [[3], [2, 1, 1]]))
        self.assertIsNone(heaps_fault((), (), []))
        for heaps in (None, 2, "12", {}, (), ((3,),), ((3,), (4,), ()), {(3,): 1, (4,): 1}):
            self.assertEqual(heaps_fault(one, other, heaps), "many")
        for heap in (None, 3, "3", (3, 0), (1,) * 13, (True, 2), {3}):
            self.assertEqual(heaps_fault(one, other, (heap, None)), "heap")
            self.assertEqual(heaps_fault(one, other, ((3,), heap)), "heap")
        self.assertEqual(heaps_fault(one, other, ((4,), None)), "sum")
        self.assertEqual(heaps_fault(one, other, ((1, 1, 2), (3,))), "sum")
        self.assertEqual(heaps_fault(one, other, ((), (1, 3))), "sum")
        self.assertEqual(heaps_fault(one, other, ((1, 2), (4,))), "coins")
        self.assertEqual(heaps_fault(one, other, ((3,), (1, 3))), "coins")
        self.assertEqual(heaps_fault((1,) * 12, (6, 12), ((1,) * 6, (1,) * 12)), "coins")

    def test_the_judge_takes_just_the_right_heaps(self):
        for one, other in COUPLES:
            if len(other) > 2 or not 0 < len(one) <= 4:
                continue
            lots = lots_in_order(one)
            for heaps in product(lots, repeat=len(other)):
                right = worths_by_purses(heaps) == other and pool_by_purses(heaps) == one
                self.assertEqual(heaps_fault(one, other, heaps) is None, right)


class Led(Case):
    def test_the_first_unused_heap_comes_for_each_coin(self):
        split = ((2,), (), (3, 2))
        heaps = ((1, 1), (2,), (1, 2))
        self.same(led_split(split, heaps), ((1, 1), (), (1, 2, 2)))
        self.same(led_split([[2], [], [3, 2]], [[1, 1], [2], [2, 1]]), ((1, 1), (), (1, 2, 2)))
        self.same(led_split(((5, 2), (2,)), ((2,), (1, 1), (4, 1))), ((1, 2, 4), (1, 1)))
        self.same(led_split(((), ()), ()), ((), ()))

    def test_the_worths_stay_and_the_coins_are_the_heaps(self):
        for one, other in COUPLES:
            heaps = finer_heaps(one, other)
            if heaps is None:
                continue
            for people in (1, 2, 3):
                for split in splits_in_order(other, people)[:40]:
                    led = led_split(split, heaps)
                    self.assertEqual(worths_by_purses(led), worths_by_purses(split))
                    self.assertEqual(pool_by_purses(led), one)

    def test_wrong_heaps(self):
        split = ((2,), (1, 1))
        for heaps in (None, 3, {}, (), ((1,), (1,)), ((1,),) * 4, "112"):
            self.fails(BadHeaps, ("many",), led_split, split, heaps)
        for heap in (None, 1, "1", (0,), (True,), (1,) * 13):
            self.fails(BadHeaps, ("heap",), led_split, split, (heap, None, None))
            self.fails(BadHeaps, ("heap",), led_split, split, ((1,), heap, (7,)))
        self.fails(BadHeaps, ("sum",), led_split, split, ((1,), (2,), None))
        self.fails(BadHeaps, ("sum",), led_split, split, ((1,), (1,), ()))
        self.same(led_split(((6,), (6,)), ((1,) * 6, (1,) * 6)), ((1,) * 6, (1,) * 6))
        self.fails(BadHeaps, ("coins",), led_split, ((7,), (6,)), ((1,) * 6, (1,) * 7))


class Broken(Case):
    def test_broken_coins(self):
        self.same(broken_coin((1, 3, 3), 3, (2, 1)), (1, 1, 2, 3))
        self.same(broken_coin([2], 2, [1, 1]), (1, 1))
        self.same(broken_coin((12,), 12, (1,) * 12), (1,) * 12)
        self.same(broken_coin((COIN,), COIN, (1, COIN - 1)), (1, COIN - 1))
        for pool in pools_up_to(3, 4):
            for coin in set(pool):
                for parts in (row for count in range(2, 5) for row in rows_of_coins(count, coin)):
                    broken = broken_coin(pool, coin, parts)
                    wanted = tuple(sorted(rest_by_counts(pool, (coin,)) + parts))
                    self.same(broken, wanted)
                    for people in range(1, 6):
                        # Breaking a coin leaves every number of people served.
                        self.assertTrue(serves_by_formula(broken, people) or not serves_by_formula(pool, people))

    def test_wrong_parts(self):
        self.fails(BadLot, (), broken_coin, (1, 3), 2, None)
        self.fails(BadLot, (), broken_coin, (), 1, (1, 1))
        self.fails(BadParts, (), broken_coin, (1, 3), 3, ())
        self.fails(BadParts, (), broken_coin, (1, 3), 3, (3,))
        self.fails(BadParts, (), broken_coin, (1, 3), 3, (1, 1))
        self.fails(BadParts, (), broken_coin, (1,) * 11 + (3,), 3, (1, 1, 1, 1))
        self.fails(BadPool, (0, "many"), broken_coin, (1,) * 11 + (3,), 3, (1, 2))
        self.same(broken_coin((1,) * 10 + (3,), 3, (1, 2)), (1,) * 11 + (2,))
        self.fails(BadPool, (0, "many"), broken_coin, (2, 12), 12, (1,) * 12)


class Joined(Case):
    def test_joined_coins(self):
        self.same(joined_coins((1, 1, 2), (2, 1)), (1, 3))
        self.same(joined_coins([1] * 12, [1] * 12), (12,))
        self.same(joined_coins((1, COIN - 1), (1, COIN - 1)), (COIN,))
        for pool in pools_up_to(4, 3):
            for lot in lots_in_order(pool):
                if len(lot) > 1:
                    wanted = tuple(sorted(rest_by_counts(pool, lot) + (sum(lot),)))
                    self.same(joined_coins(pool, lot), wanted)
                    for people in range(1, 6):
                        self.assertIs(may_join(pool, people, lot), serves_by_formula(wanted, people))

    def test_wrong_lots(self):
        for function, more in ((joined_coins, ()), (may_join, (2,))):
            self.fails(BadLot, (), function, (1, 1, 2), *more, (3,))
            self.fails(BadLot, (), function, (1, 1, 2), *more, (2, 2))
            self.fails(BadParts, (), function, (1, 1, 2), *more, ())
            self.fails(BadParts, (), function, (1, 1, 2), *more, [2])
            self.fails(BadParts, (), function, (COIN,), *more, [COIN])
            self.fails(BadCoin, (), function, (2, COIN - 1), *more, (2, COIN - 1))

    def test_good_joins(self):
        for pool in pools_up_to(5, 4):
            for people in range(1, 6):
                wanted = [
                    lot for lot in lots_in_order(pool) if len(lot) == 2
                    and serves_by_formula(rest_by_counts(pool, lot) + (sum(lot),), people)
                ]
                self.same(good_joins(pool, people), tuple(wanted))
        self.same(good_joins((1, COIN, COIN), 1), ())
        self.same(good_joins((1, COIN - 1, COIN), 1), ((1, COIN - 1),))
        self.same(good_joins((1, 1, 1, 1), 2), ((1, 1),))
        self.same(good_joins((), 1), ())

    def test_a_pool_of_the_fewest_coins_has_none(self):
        for total, people in product(range(22), range(2, 6)):
            for pool in list(all_least(total, people))[:200]:
                self.same(good_joins(pool, people), ())


if __name__ == "__main__":
    unittest.main()
