"""4.5 to 4.8: pools that bear losses, and coins that make a pool bear one."""

import unittest
from itertools import combinations_with_replacement, product

from anyworths.bearing import all_bearing, all_least_puts, bearing_part, bearing_pool, fewest_bearing
from anyworths.bearing import greatest_bearing, least_put, next_bearing
from anyworths.errors import BadPeople
from anyworths.leastpools import NoPool, all_pools, greatest_total
from tests.roads import Case, at_once, bears_by_lots, lots_in_order, pools_up_to, rows_of_coins

PEOPLE = range(2, 6)
COIN = 10 ** 9
POOLS = pools_up_to(4, 5) + [(1, 1, 1, 1, 2, 2, 3), (1, 1, 2, 3, 9), (1, 1, 1, 1, 1, 4, 4), (2, 2, 3, 3, 5)]


def bearing_rows(count, total, people, lost):
    return [row for row in rows_of_coins(count, total) if bears_by_lots(row, people, lost)]


def together(pool, lot):
    return tuple(sorted(pool + lot))


class Totals(Case):
    def test_pools_with_a_total_exist_exactly_up_to_the_greatest(self):
        for count, people, lost in product(range(6), PEOPLE, range(4)):
            high = greatest_bearing(count, people, lost)
            for total in range(min(high, 14) + 3):
                rows = bearing_rows(count, total, people, lost)
                self.assertEqual(len(rows) > 0, count <= total <= high, (count, total, people, lost))
                self.assertEqual(list(all_bearing(count, total, people, lost)), rows)
                told = bearing_pool(count, total, people, lost)
                if rows:
                    self.assertIn(told, rows)
                else:
                    self.same(told, NoPool(count, high))

    def test_the_row_of_the_greatest(self):
        def by_formula(count, people, lost):
            row = {at: 0 for at in range(-20, 1)}
            for at in range(1, count + 1):
                row[at] = row[at - 1] + row[at - 1 - lost] // (people - 1) + 1
            return row[count]

        for count, people, lost in product(range(13), PEOPLE, range(13)):
            self.assertEqual(greatest_bearing(count, people, lost), by_formula(count, people, lost))
        self.assertEqual([greatest_bearing(count, 2, 1) for count in range(1, 7)], [1, 2, 4, 7, 12, 20])

    def test_without_a_loss_it_is_part_three(self):
        for count, people in product(range(13), PEOPLE):
            self.assertEqual(greatest_bearing(count, people, 0), greatest_total(count, people))
        for count, total, people in product(range(7), range(20), PEOPLE):
            wanted = list(all_pools(count, total, people))
            self.assertEqual(list(all_bearing(count, total, people, 0)), wanted)

    def test_many_coins_for_every_total(self):
        for count, people, lost in product((11, 12), (2, 3, 5), (0, 1, 3, 11, 12)):
            high = greatest_bearing(count, people, lost)
            for total in sorted({count, count + 1, high // 2, high - 1, high}):
                if count <= total <= high:
                    told = bearing_pool(count, total, people, lost)
                    self.assertEqual((len(told), sum(told)), (count, total))
                    self.assertEqual(told, tuple(sorted(told)))
                    self.assertTrue(bears_by_lots(told, people, lost), told)
            self.same(bearing_pool(count, high + 1, people, lost), NoPool(count, high))
            self.same(bearing_pool(count, count - 1, people, lost), NoPool(count, high))

    def test_edges(self):
        self.same(bearing_pool(0, 0, 2, 12), ())
        self.same(bearing_pool(0, 1, 2, 0), NoPool(0, 0))
        self.same(bearing_pool(12, 12, 5, 12), (1,) * 12)
        self.same(bearing_pool(12, COIN, 5, 12), NoPool(12, 12))
        self.assertEqual(list(all_bearing(0, 0, 5, 3)), [()])
        self.assertEqual(list(all_bearing(12, 36, 2, 12)), [])
        self.assertEqual(list(all_bearing(12, 12, 2, 12)), [(1,) * 12])

    def test_all_pools_of_twelve_coins_and_the_greatest_total_yielded(self):
        with at_once():
            for lost in (0, 1, 2, 5):
                rows = list(all_bearing(12, 36, 3, lost))
                self.assertEqual(rows, sorted(set(rows)))
                count = sum(
                    1 for row in rows_of_coins(12, 36)
                    if all(2 * (coin - 1) <= sum(row[:max(0, at - lost)]) for at, coin in enumerate(row))
                )
                self.assertEqual(len(rows), count)

    def test_fewest_coins(self):
        for people, lost in product(PEOPLE, (0, 1, 2, 3, 12)):
            greatest = [greatest_bearing(count, people, lost) for count in range(13)]
            for total in range(min(greatest[-1], 60) + 1):
                wanted = min(count for count in range(13) if greatest[count] >= total)
                self.assertEqual(fewest_bearing(total, people, lost), wanted)
        self.assertEqual(fewest_bearing(0, 5, 12), 0)
        self.assertEqual(fewest_bearing(21, 2, 1), 7)
        self.assertEqual(fewest_bearing(13, 5, 12), 13)
        with at_once():
            # The row by its formula, beyond twelve coins.
            row = [0]
            while row[-1] < COIN:
                row.append(row[-1] + (row[-13] if len(row) >= 13 else 0) // 4 + 1)
            self.assertEqual(fewest_bearing(COIN, 5, 12), len(row) - 1)
            self.assertEqual(fewest_bearing(COIN, 2, 0), 30)


class Put(Case):
    def test_next_bearing_is_the_greatest_coin_that_may_be_put(self):
        for pool, people, lost in product(POOLS, PEOPLE, range(4)):
            told = next_bearing(pool, people, lost)
            if not bears_by_lots(pool, people, lost):
                self.assertIsNone(told)
                continue
            for coin in range(1, sum(pool) + 3):
                bears = bears_by_lots(together(pool, (coin,)), people, lost)
                self.assertEqual(bears, coin <= told, (pool, people, lost, coin))

    def test_next_bearing_of_examples_and_edges(self):
        self.assertEqual(next_bearing((3, 2, 1, 1), 2, 1), 5)
        self.assertIsNone(next_bearing((1, 1, 2, 3), 2, 2))
        self.assertEqual(next_bearing((), 2, 0), 1)
        self.assertEqual(next_bearing((1,) * 12, 2, 12), 1)
        self.assertEqual(next_bearing((1,) * 12, 2, 0), 13)
        self.assertEqual(next_bearing((1,) * 12, 2, 11), 2)
        powers = [2 ** at for at in range(12)]
        self.assertEqual(next_bearing(powers, 2, 0), 2 ** 12)

    def test_the_part_that_bears(self):
        for pool, people, lost in product(POOLS, PEOPLE, range(4)):
            part = bearing_part(pool, people, lost)
            self.assertTrue(bears_by_lots(part, people, lost))
            self.assertEqual(part, pool[:len(part)])
            for lot in lots_in_order(pool):
                if bears_by_lots(lot, people, lost):
                    self.assertTrue(all(lot.count(coin) <= part.count(coin) for coin in lot), (pool, lot, part))
        self.same(bearing_part([9, 1, 1], 2, 0), (1, 1))
        self.same(bearing_part([2, 1, 1], 2, 0), (1, 1, 2))
        self.same(bearing_part([], 2, 0), ())
        self.same(bearing_part([2], 5, 12), ())

    def test_least_puts(self):
        for pool, people, lost in product(POOLS[::2], (2, 3, 5), range(3)):
            told = least_put(pool, people, lost)
            self.assertEqual(told, tuple(sorted(told)))
            self.assertTrue(bears_by_lots(together(pool, told), people, lost))
            self.assertEqual(told == (), bears_by_lots(pool, people, lost))
            if len(told) > 3:
                continue
            # Coins above the pool's greatest one are tried as well.
            greatest = max(pool, default=1) + 1
            for many in range(len(told) + 1):
                wanted = [
                    lot for lot in combinations_with_replacement(range(1, greatest + 1), many)
                    if bears_by_lots(together(pool, lot), people, lost)
                ]
                if many < len(told):
                    self.assertEqual(wanted, [])
            self.assertEqual(list(all_least_puts(pool, people, lost)), wanted, (pool, people, lost))
            self.assertIn(told, wanted)

    def test_examples(self):
        self.same(least_put((4,), 2, 0), (1, 2))
        self.same(least_put((4,), 2, 1), (1, 1, 2, 3))
        self.assertEqual(list(all_least_puts((4,), 2, 0)), [(1, 2)])
        self.assertEqual(list(all_least_puts([5], 2, 0)), [(1, 1, 2), (1, 1, 3), (1, 2, 2), (1, 2, 3), (1, 2, 4)])
        self.assertEqual(list(all_least_puts((), 2, 3)), [()])
        self.assertEqual(list(all_least_puts((1, 1), 5, 3)), [()])

    def test_the_rule_of_the_least_lot(self):
        def by_rule(pool, people, lost):
            gathered, put = [], []
            for coin in pool:
                while True:
                    kept = sorted(gathered)[:len(gathered) - lost] if len(gathered) > lost else []
                    room = sum(kept) // (people - 1) + 1
                    if coin <= room:
                        break
                    put.append(room)
                    gathered.append(room)
                gathered.append(coin)
            return tuple(put)

        for pool, people, lost in product(POOLS, PEOPLE, range(6)):
            self.same(least_put(pool, people, lost), by_rule(pool, people, lost))
        for pool in ((COIN,) * 12, (1, 10, 100, 10 ** 4, COIN), (7, 900, COIN - 1)):
            for people, lost in product(PEOPLE, (0, 1, 12)):
                with at_once():
                    self.same(least_put(pool, people, lost), by_rule(pool, people, lost))
        self.assertGreater(len(least_put((COIN,), 5, 12)), 12)

    def test_a_coin_of_twenty(self):
        with at_once():
            lots = list(all_least_puts((1, 1, 1, 20), 2, 0))
            self.assertEqual(lots, sorted(set(lots)))
            self.assertIn(least_put((1, 1, 1, 20), 2, 0), lots)
            self.assertTrue(all(len(lot) == 3 for lot in lots))

    def test_one_person_is_refused(self):
        self.fails(BadPeople, (), next_bearing, (1,), 1, 0)
        self.fails(BadPeople, (), all_bearing, 1, 1, 1, 0)


if __name__ == "__main__":
    unittest.main()
