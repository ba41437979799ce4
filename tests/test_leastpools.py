"""3.2 to 3.9 and 3.19: totals of serving pools, and all serving pools of a total."""

import unittest
from itertools import permutations

from anyworths.errors import BadCoin, BadCount, BadPeople, BadTotal, BadUnlike
from anyworths.leastpools import NoPool, all_least, all_pools, count_pools, fewest_coins, fewest_with
from anyworths.leastpools import greatest_coin, greatest_total, greatest_unlike, least_total_with, pool_for
from anyworths.leastpools import room_of, totals_row
from tests.roads import Case, at_once, pools_up_to, rows_of_coins, serves_by_formula, wishes_by_bars
from tests.roads import worths_by_owners

COIN = 10 ** 9
PEOPLE = range(2, 6)


def serving_rows(count, total, people):
    """All ascending rows of so many coins with this total that serve."""
    return [row for row in rows_of_coins(count, total) if serves_by_formula(row, people)]


def serving_up_to(count, people):
    """All ascending rows of so many coins that serve, of any total."""
    rows = [()]
    for _ in range(count):
        rows = [
            row + (coin,)
            for row in rows
            for coin in range(row[-1] if row else 1, sum(row) + 2)
            if serves_by_formula(row + (coin,), people)
        ]
    return rows


class Rooms(Case):
    def test_the_room_of_a_total(self):
        for people in PEOPLE:
            self.assertEqual(room_of(0, people), 1)
            self.assertEqual([room_of(total, people) for total in range(50)],
                             [len(range(0, total + 1, people - 1)) for total in range(50)])
        self.assertEqual(room_of(10 ** 12, 2), 10 ** 12 + 1)
        self.assertEqual(room_of(10 ** 12, 5), 25 * 10 ** 10 + 1)

    def test_a_coin_may_be_put_exactly_if_it_is_at_most_the_room(self):
        for pool in pools_up_to(3, 4):
            for people in PEOPLE:
                if serves_by_formula(pool, people) and sum(pool) < 7:
                    for coin in range(1, 6):
                        more = pool + (coin,)
                        served = len(worths_by_owners(more, people)) == len(wishes_by_bars(sum(more), people))
                        self.assertEqual(served, coin <= room_of(sum(pool), people))

    def test_coins_may_be_put_in_any_order(self):
        for pool in pools_up_to(4, 4):
            for people in PEOPLE:
                some = any(
                    all(coin <= room_of(sum(order[:at]), people) for at, coin in enumerate(order))
                    for order in permutations(pool)
                )
                self.assertEqual(some, serves_by_formula(pool, people))


class Totals(Case):
    def test_the_example_of_the_document(self):
        self.same(totals_row(6, 3), (0, 1, 2, 4, 7, 11, 17))

    def test_the_greatest_total(self):
        for people in PEOPLE:
            for count in range(6):
                greatest = max(sum(row) for row in serving_up_to(count, people))
                self.assertEqual(greatest_total(count, people), greatest)
            self.same(totals_row(60, people), tuple(greatest_total(count, people) for count in range(61)))
            self.same(totals_row(0, people), (0,))
            for count in range(60):
                here = greatest_total(count, people)
                self.assertEqual(greatest_total(count + 1, people), here + here // (people - 1) + 1)
        self.assertEqual(greatest_total(60, 2), 2 ** 60 - 1)

    def test_pools_exist_exactly_between_the_bounds(self):
        for people in PEOPLE:
            for count in range(7):
                for total in range(20):
                    exists = bool(serving_rows(count, total, people))
                    self.assertEqual(exists, count <= total <= greatest_total(count, people))

    def test_the_fewest_coins(self):
        for people in PEOPLE:
            self.assertEqual(fewest_coins(0, people), 0)
            for total in range(1, 23):
                counts = [count for count in range(total + 1) if serving_rows(count, total, people)]
                self.assertEqual(fewest_coins(total, people), counts[0])
            for count in range(1, 25):
                greatest = greatest_total(count, people)
                self.assertEqual(fewest_coins(greatest, people), count)
                self.assertEqual(fewest_coins(greatest + 1, people), count + 1)
        self.assertEqual(fewest_coins(10 ** 9, 2), 30)
        self.assertGreater(fewest_coins(10 ** 9, 5), 60)

    def test_the_greatest_coin(self):
        for people in PEOPLE:
            self.assertEqual(greatest_coin(0, people), 0)
            for total in range(1, 17):
                coins = [row[-1] for count in range(1, total + 1) for row in serving_rows(count, total, people)]
                self.assertEqual(greatest_coin(total, people), max(coins))
        self.assertEqual(greatest_coin(10 ** 9, 2), 5 * 10 ** 8)
        self.assertEqual(greatest_coin(10 ** 9 - 1, 3), 333333333)
        self.assertEqual(greatest_coin(10 ** 9, 3), 333333334)

    def test_what_a_coin_needs(self):
        for people in PEOPLE:
            for coin in range(1, 5):
                totals = [total for total in range(1, 17)
                          if any(coin in row for count in range(1, 17) for row in serving_rows(count, total, people))]
                self.assertEqual(least_total_with(coin, people), totals[0])
        for people, greatest in ((2, 16), (3, 7), (4, 4), (5, 3)):
            for coin in range(1, greatest):
                counts = [count for count in range(1, 7)
                          if any(coin in row for row in serving_up_to(count, people))]
                self.assertEqual(fewest_with(coin, people), counts[0])
        self.assertEqual(least_total_with(COIN, 5), 5 * (COIN - 1) + 1)
        self.assertEqual(fewest_with(COIN, 2), 31)
        self.assertEqual([fewest_with(1, people) for people in PEOPLE], [1] * 4)


class PoolsOfATotal(Case):
    def test_any_serving_pool_of_a_count_and_a_total(self):
        for people in PEOPLE:
            for count in range(13):
                high = greatest_total(count, people)
                for total in list(range(min(high, 40) + 3)) + [high // 2, high - 1, high, high + 1, 10 ** 9]:
                    if total < 0:
                        continue
                    pool = pool_for(count, total, people)
                    if count <= total <= high:
                        self.same(pool, tuple(sorted(pool)))
                        self.assertEqual((len(pool), sum(pool)), (count, total))
                        self.assertTrue(serves_by_formula(pool, people))
                    else:
                        self.same(pool, NoPool(count, high))

    def test_no_coins(self):
        for people in PEOPLE:
            self.same(pool_for(0, 0, people), ())
            self.same(pool_for(0, 1, people), NoPool(0, 0))
            self.same(pool_for(1, 0, people), NoPool(1, 1))
            self.assertEqual(list(all_pools(0, 0, people)), [()])
            self.assertEqual(list(all_pools(0, 1, people)), [])
            self.assertEqual(list(all_pools(1, 0, people)), [])
            self.assertEqual(count_pools(0, 0, people), 1)
            self.assertEqual(count_pools(12, 0, people), 0)
            self.assertEqual(list(all_least(0, people)), [()])

    def test_all_pools_once_ascending(self):
        for people in PEOPLE:
            for total in range(19):
                for count in range(13):
                    wanted = serving_rows(count, total, people)
                    pools = list(all_pools(count, total, people))
                    self.assertEqual(pools, wanted)
                    self.assertEqual(pools, sorted(set(pools)))
                    self.assertEqual(count_pools(count, total, people), len(wanted))

    def test_the_greatest_totals_that_are_let(self):
        with at_once():
            for people in PEOPLE:
                for count in (5, 9, 12):
                    self.assertEqual(list(all_pools(count, 36, people)), serving_rows(count, 36, people))
                    self.assertEqual(count_pools(count, 36, people), len(serving_rows(count, 36, people)))
                self.assertLessEqual(fewest_coins(36, people), 12)

    def test_all_pools_of_the_fewest_coins(self):
        self.assertEqual(list(all_least(7, 3)), [(1, 1, 2, 3)])
        for people in PEOPLE:
            for total in range(37):
                least = list(all_least(total, people))
                self.assertEqual(least, list(all_pools(fewest_coins(total, people), total, people)))
                self.assertTrue(least)


class FewWorths(Case):
    def test_the_greatest_total_of_few_unlike_worths(self):
        for people in PEOPLE:
            for count in range(1, 6):
                rows = serving_up_to(count, people)
                for unlike in range(1, count + 2):
                    greatest, pool = greatest_unlike(count, unlike, people)
                    self.assertEqual(greatest, max(sum(row) for row in rows if len(set(row)) <= unlike))
                    self.assertEqual((len(pool), sum(pool)), (count, greatest))
                    self.assertLessEqual(len(set(pool)), unlike)
                    self.assertTrue(serves_by_formula(pool, people))
                    self.same(pool, tuple(sorted(pool)))

    def test_twelve_coins(self):
        for people in PEOPLE:
            self.same(greatest_unlike(12, 1, people), (12, (1,) * 12))
            self.assertEqual(greatest_unlike(12, 12, people)[0], greatest_total(12, people))
            for unlike in range(2, 12):
                greatest, pool = greatest_unlike(12, unlike, people)
                self.assertEqual(greatest, self.by_turns(12, unlike, people))
                self.assertEqual((len(pool), sum(pool)), (12, greatest))
                self.assertLessEqual(len(set(pool)), unlike)
                self.assertTrue(serves_by_formula(pool, people))

    def by_turns(self, count, unlike, people):
        """The greatest total, by all rows of how often each next worth comes."""
        totals = {(count, 0)}
        for _ in range(unlike):
            totals = {
                (left - many, total + many * room_of(total, people))
                for left, total in totals
                for many in range(left + 1)
            }
        return max(total for left, total in totals if left == 0)

    def test_no_coins(self):
        for unlike in (1, 12):
            self.same(greatest_unlike(0, unlike, 3), (0, ()))


class Bounds(Case):
    def test_counts(self):
        for function in (greatest_total, totals_row):
            self.fails(BadCount, (60,), function, 61, 1)
        for function in (all_pools, count_pools):
            self.fails(BadCount, (12,), function, 13, 37, 1)
            self.fails(BadTotal, (36,), function, 12, 37, 1)
            self.fails(BadPeople, (), function, 12, 36, 1)
        self.fails(BadCount, (12,), pool_for, 13, 10 ** 9 + 1, 1)
        self.fails(BadTotal, (10 ** 9,), pool_for, 12, 10 ** 9 + 1, 1)
        self.fails(BadPeople, (), pool_for, 12, 10 ** 9, 1)
        self.fails(BadCount, (12,), greatest_unlike, 13, 0, 1)
        self.fails(BadUnlike, (), greatest_unlike, 12, 13, 1)
        self.fails(BadUnlike, (), greatest_unlike, 12, 0, 1)

    def test_totals(self):
        self.fails(BadTotal, (10 ** 12,), room_of, 10 ** 12 + 1, 1)
        for function in (fewest_coins, greatest_coin):
            self.fails(BadTotal, (10 ** 9,), function, 10 ** 9 + 1, 1)
            self.fails(BadPeople, (), function, 10 ** 9, 1)
        self.fails(BadTotal, (36,), all_least, 37, 1)
        self.fails(BadPeople, (), all_least, 36, 6)

    def test_coins(self):
        for function in (least_total_with, fewest_with):
            for coin in (0, COIN + 1, True, None):
                self.fails(BadCoin, (), function, coin, 1)
            self.fails(BadPeople, (), function, COIN, 1)


if __name__ == "__main__":
    unittest.main()
