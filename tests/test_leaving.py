"""8.1 to 8.6: people who leave with coins."""

import unittest
from itertools import permutations

from anyworths.errors import BadAmount, BadOrder, BadPeople, BadPool, BadWish
from anyworths.leaving import Stays, all_leave, first_leavers, leaves, lots_leaving, stays_fault, taken_lot
from anyworths.leaving import worths_leaving
from anyworths.serving import serves
from tests.roads import Case, at_once, listed, lots_in_order, pool_by_purses, pools_up_to, rest_by_counts
from tests.roads import serves_by_formula, wishes_by_bars

COIN = 10 ** 9
POOLS = pools_up_to(4, 4) + [(1, 1, 2, 3, 4), (1, 1, 2, 3, 5), (1, 1, 1, 2, 6), (2, 2, 3, 3, 7), (1, 1, 1, 2, 2, 5)]
NO_WORTHS = (None, True, False, -1, "1", "", 1.0, (1,), [1], {})


def leaving_by_lots(pool, left, worth):
    """All lots with this sum whose rest serves, in the order of lots."""
    return [
        lot for lot in lots_in_order(pool)
        if sum(lot) == worth and serves_by_formula(rest_by_counts(pool, lot), left)
    ]


def leave_by_search(pool, wish, order):
    """The lots with which all leave in this order, or None."""
    people = len(wish)
    purses = [None] * people
    for gone, person in enumerate(order):
        if gone == people - 1:
            purses[person] = pool
            continue
        lots = leaving_by_lots(pool, people - gone - 1, wish[person])
        if not lots:
            return None
        purses[person] = lots[0]
        pool = rest_by_counts(pool, lots[0])
    return tuple(purses)


class Taken(Case):
    def test_from_the_greatest_on(self):
        for pool in POOLS:
            for worth in range(sum(pool) + 1):
                lot, lack = [], worth
                for coin in sorted(pool, reverse=True):
                    if lack >= coin:
                        lot.append(coin)
                        lack -= coin
                self.same(taken_lot(list(pool)[::-1], worth), tuple(sorted(lot)) if lack == 0 else None)
        self.same(taken_lot((), 0), ())
        self.assertIsNone(taken_lot((2, 2, 3), 4))
        self.same(taken_lot((COIN,) * 12, 12 * COIN), (COIN,) * 12)

    def test_in_a_serving_pool_everybody_leaves_by_it(self):
        for pool in POOLS:
            for people in range(2, 6):
                if not serves_by_formula(pool, people):
                    continue
                for worth in range(sum(pool) + 1):
                    lot = taken_lot(pool, worth)
                    self.assertEqual(sum(lot), worth)
                    self.assertTrue(serves_by_formula(rest_by_counts(pool, lot), people - 1))

    def test_worths(self):
        for worth in NO_WORTHS + (4, 10 ** 30):
            self.fails(BadAmount, (), taken_lot, (1, 2), worth)
        self.fails(BadAmount, (), taken_lot, (), 1)
        self.fails(BadPool, (0, "coin"), taken_lot, [0], None)


class Lots(Case):
    def test_all_lots_whose_rest_serves(self):
        for pool in POOLS:
            for left in range(1, 6):
                worths = []
                for worth in range(sum(pool) + 1):
                    wanted = leaving_by_lots(pool, left, worth)
                    self.assertEqual(list(lots_leaving(list(pool)[::-1], left, worth)), wanted)
                    worths += [worth] if wanted else []
                self.same(worths_leaving(list(pool)[::-1], left), tuple(worths))

    def test_every_worth_leaves_exactly_if_the_pool_serves(self):
        stays = 0
        for pool in POOLS:
            for people in range(2, 6):
                all_worths = tuple(range(sum(pool) + 1))
                unserved = serves(pool, people)
                self.assertEqual(worths_leaving(pool, people - 1) == all_worths, unserved is None)
                for worth in unserved.wish if unserved else ():
                    self.assertIsInstance(leaves(pool, people, worth), Stays)
                    stays += 1
        self.assertGreater(stays, 0)

    def test_some_pools(self):
        self.assertEqual(list(lots_leaving([2, 1, 1], 2, 2)), [(2,)])
        self.assertEqual(list(lots_leaving((1, 1, 2), 1, 2)), [(2,), (1, 1)])
        self.assertEqual(list(lots_leaving((1, 1, 2), 3, 0)), [()])
        self.assertEqual(list(lots_leaving((), 5, 0)), [()])
        self.same(worths_leaving((), 5), (0,))
        self.same(worths_leaving((1, 2, 2), 2), (0, 2, 4, 5))

    def test_the_errors_in_their_order(self):
        self.fails(BadPool, (0, "many"), lots_leaving, None, 0, None)
        self.fails(BadPool, (0, "many"), worths_leaving, None, 0)
        for left in (0, 6, True, None, "1"):
            self.fails(BadPeople, (), lots_leaving, (1,), left, None)
            self.fails(BadPeople, (), worths_leaving, (1,), left)
        for worth in NO_WORTHS + (2,):
            self.fails(BadAmount, (), lots_leaving, (1,), 1, worth)


class Leaves(Case):
    def test_the_first_lot_or_all_lots_with_their_wishes(self):
        rows = 0
        for pool in POOLS:
            for people in range(2, 6):
                for worth in range(sum(pool) + 1):
                    lots = leaving_by_lots(pool, people - 1, worth)
                    told = leaves(list(pool)[::-1], people, worth)
                    if lots:
                        self.same(told, lots[0])
                        self.assertEqual(len(told), min(map(len, lots)))
                        continue
                    wanted = []
                    for lot in lots_in_order(pool):
                        if sum(lot) == worth:
                            unserved = serves(rest_by_counts(pool, lot), people - 1)
                            wanted.append((lot, unserved.place, unserved.wish))
                    self.same(told, Stays(tuple(wanted)))
                    self.assertIsNone(stays_fault(pool, people, worth, told))
                    rows = max(rows, len(wanted))
        self.assertGreater(rows, 1)

    def test_the_example(self):
        for worth, lot in enumerate(((), (1,), (2,), (1, 2), (1, 1, 2))):
            self.same(leaves([1, 2, 1], 3, worth), lot)
        self.same(leaves((1, 2, 2), 3, 1), Stays((((1,), 0, (3, 1)),)))
        self.same(leaves((1, 2, 2), 3, 2), (2,))
        self.same(leaves((2, 2), 2, 3), Stays(()))
        self.same(leaves((), 5, 0), ())

    def test_the_errors_in_their_order(self):
        for function in (leaves, lambda *told: stays_fault(*told, None)):
            self.fails(BadPool, (0, "coin"), function, [0], 1, None)
            for people in (1, 0, 6, True, None):
                self.fails(BadPeople, (), function, (1,), people, None)
            for worth in NO_WORTHS + (2, 12 * COIN + 1):
                self.fails(BadAmount, (), function, (1,), 2, worth)


class Judged(Case):
    def test_other_right_results(self):
        # Other wishes that are short of room there, and other places.
        right = leaves((1, 2, 2), 3, 1)
        for row in (((1,), 0, (3, 1)), ((1,), 0, (1, 3)), ((1,), 0, [1, 3]), [(1,), 0, (3, 1)]):
            for rows in ((row,), [row]):
                self.assertIsNone(stays_fault((1, 2, 2), 3, 1, Stays(rows)))
        self.assertIsNone(stays_fault([2, 1, 2], 3, 1, right))
        self.assertIsNone(stays_fault((2, 2), 2, 3, Stays([])))

    def test_each_word(self):
        row = ((1,), 0, (3, 1))
        for rows in (None, 0, "", {}, (None,), (row[:2],), (row + (0,),), ("123",), (row, None),
                     {0: row}):
            self.assertEqual(stays_fault((1, 2, 2), 3, 1, Stays(rows)), "rows", rows)
        for rows in ((), [], (row, row), ([[1], 0, (3, 1)],), (((2,), 0, (3, 1)),), (((True,), 0, (3, 1)),),
                     (((), 0, (3, 1)),), ((None, 0, (3, 1)),), ((1, 0, (3, 1)),), (((1.0,), 0, (3, 1)),)):
            self.assertEqual(stays_fault((1, 2, 2), 3, 1, Stays(rows)), "lots", rows)
        for wrong in (((1,), 2, (3, 1)), ((1,), 1, (3, 1)), ((1,), None, (3, 1)), ((1,), True, (3, 1)),
                      ((1,), 0, (2, 2)), ((1,), 0, None), ((1,), 0, (3, 1, 0)), ((1,), 0, (4,)),
                      ((1,), 0, (3, 2)), ((1,), -1, (3, 1))):
            self.assertEqual(stays_fault((1, 2, 2), 3, 1, Stays((wrong,))), "wish", wrong)
        # A lot whose rest serves has no right wish, whatever is told.
        for place in range(2):
            for wish in wishes_by_bars(2, 2):
                rows = (((2,), place, wish), ((1, 1), 0, (1, 1)))
                self.assertEqual(stays_fault((1, 1, 2), 3, 2, Stays(rows)), "wish")

    def test_lots_stand_in_their_order(self):
        pool, people, worth = (2, 3, 3, 5), 3, 5
        right = leaves(pool, people, worth)
        self.assertEqual([row[0] for row in right.rows], [(5,), (2, 3)])
        self.assertIsNone(stays_fault(pool, people, worth, Stays(listed_but_lots(right.rows))))
        for rows in (right.rows[::-1], right.rows[:1], right.rows + right.rows[:1], right.rows[:1] * 2,
                     (right.rows[0], ((3, 2),) + right.rows[1][1:])):
            self.assertEqual(stays_fault(pool, people, worth, Stays(rows)), "lots")


def listed_but_lots(rows):
    return [[lot, place, listed(wish)] for lot, place, wish in rows]


class AllLeave(Case):
    def test_each_takes_what_leaves_returns(self):
        stays = 0
        for pool in pools_up_to(3, 3) + [(1, 1, 2, 3), (1, 1, 1, 2), (1, 1, 1, 1)]:
            for people in range(1, 5):
                for wish in wishes_by_bars(sum(pool), people)[::1 if people < 4 else 5]:
                    first = []
                    for order in permutations(range(people)):
                        wanted = leave_by_search(pool, wish, order)
                        self.same(all_leave(list(pool)[::-1], list(wish), list(order)), wanted)
                        if wanted:
                            self.assertEqual(pool_by_purses(wanted), pool)
                            self.assertEqual(tuple(map(sum, wanted)), wish)
                            first.append(order[0])
                        stays += wanted is None
                    self.same(first_leavers(list(pool)[::-1], list(wish)), tuple(sorted(set(first))))
                    # Only the first one can stay.
                    self.assertEqual(len(first), len(set(first)) * len(list(permutations(range(people - 1)))))
        self.assertGreater(stays, 0)

    def test_in_a_serving_pool_all_leave_in_any_order(self):
        for pool, people in (((1, 1, 2, 3, 4), 3), ((1, 1, 1, 2, 2), 4), ((1,) * 6, 5), ((1, 2, 4, 8), 2)):
            for wish in wishes_by_bars(sum(pool), people)[::7]:
                self.same(first_leavers(pool, wish), tuple(range(people)))
                for order in list(permutations(range(people)))[::5]:
                    self.assertEqual(tuple(map(sum, all_leave(pool, wish, order))), wish)

    def test_one_person(self):
        self.same(all_leave([2, 1], [3], [0]), ((1, 2),))
        self.same(first_leavers([2, 1], [3]), (0,))
        self.same(all_leave((), (0,), (0,)), ((),))
        self.same(first_leavers((), (0, 0)), (0, 1))
        self.same(all_leave((2, 2), (4, 0), (1, 0)), ((2, 2), ()))
        self.same(first_leavers((1, 2, 2), (3, 1, 1)), ())
        self.assertIsNone(all_leave((1, 2, 2), (3, 1, 1), (0, 1, 2)))

    def test_the_errors_in_their_order(self):
        self.fails(BadPool, (0, "coin"), all_leave, [0], None, None)
        self.fails(BadPool, (0, "coin"), first_leavers, [0], None)
        self.fails(BadWish, (0, "many"), all_leave, [1], (), None)
        self.fails(BadWish, (1, "number"), first_leavers, [1], (1, False))
        self.fails(BadWish, (2, "sum"), all_leave, [1], (1, 1), None)
        for order in (None, (), (0,), (0, 0), (1, 2), (0, 1, 2), (True, 0), (0, None), "01", {0, 1}, range(2)):
            self.fails(BadOrder, (), all_leave, [1], (1, 0), order)
        self.fails(BadOrder, (), all_leave, (1, 2, 2), (3, 1, 1), (0, 1))


class Great(Case):
    def test_twelve_coins_are_answered_at_once(self):
        with at_once():
            coins = tuple(COIN - 1 - 3 ** at for at in range(12))
            worth = sum(sorted(coins)[:6])
            self.same(taken_lot(coins, sum(coins)), tuple(sorted(coins)))
            self.assertEqual(len(list(lots_leaving(coins, 1, worth))), 1)
            self.assertEqual(len(worths_leaving(coins, 1)), 1 << 12)
            told = leaves(coins, 5, worth)
            self.assertIsNone(stays_fault(coins, 5, worth, told))
            powers = tuple(1 << at for at in range(12))
            self.assertEqual(leaves(powers, 2, 2048), (2048,))
            self.same(all_leave((COIN,) * 12, (COIN * 3, 0, COIN * 9), (2, 0, 1)), None)
            self.same(all_leave((1,) * 12, (3, 0, 9), (2, 0, 1)), ((1,) * 3, (), (1,) * 9))


if __name__ == "__main__":
    unittest.main()
