"""9.3 to 9.5: as few coins moved as can be."""

import random
import unittest

from anyworths.cheapest import Halted, PaidRow, cheapest_row, fewest_in_payment, fewest_to_wish
from anyworths.debtrows import most_paid, worths_after
from anyworths.errors import BadDebt, BadDebts, BadSplit, BadSplits, BadWish, TooMany
from tests.roads import Case, at_once, debts_by_worths, has_list, listed, plays_by_search, pool_by_purses, pools_up_to
from tests.roads import small_splits, splits_in_order, ways_by_splits, wishes_by_bars, worths_by_purses
from tests.test_bands import JUST, MANY

COIN = 10 ** 9
SPLIT = ((2,), (1,), (1,))


def far(split, other):
    """How many coins must move, by counts."""
    return sum(
        max(0, purse.count(coin) - there.count(coin)) for purse, there in zip(split, other) for coin in set(purse)
    )


def first_nearest(split, splits):
    """The least distance, and the first split that has it."""
    return min(((far(split, there), at) for at, there in enumerate(splits)), default=None)


def rows():
    """Splits with rows of debts that can be asked there."""
    chance = random.Random(17)
    pools = [pool for pool in pools_up_to(5, 3) if len(pool) > 1]
    for _ in range(400):
        people = chance.choice((2, 3, 3, 4))
        split = chance.choice(splits_in_order(chance.choice(pools), people))
        debts, worths = [], list(worths_by_purses(split))
        for _ in range(chance.randint(0, 5)):
            debtor, creditor = chance.sample(range(people), 2)
            if worths[debtor] > 0:
                amount = chance.choice((1, 1, 2, chance.randint(1, worths[debtor])))
                amount = min(amount, worths[debtor])
                worths[debtor] -= amount
                worths[creditor] += amount
                debts.append((debtor, creditor, amount))
        yield split, tuple(debts)


class Payment(Case):
    def test_the_first_way_with_the_fewest_coins_moved(self):
        later = 0
        splits = small_splits(step=2) + splits_in_order((1, 1, 2, 2, 3), 2) + splits_in_order((1, 1, 1, 2, 3), 3)[::5]
        for split in splits:
            for debt in debts_by_worths(split):
                ways = ways_by_splits(split, debt)
                told = fewest_in_payment(listed(split), list(debt))
                if not ways:
                    self.assertIsNone(told)
                    continue
                number, at = first_nearest(split, ways)
                self.same(told, (number, ways[at]))
                later += at > 0
        self.assertGreater(later, 0)

    def test_some_payments(self):
        self.same(fewest_in_payment([[2], [1], [1]], [0, 1, 1]), (2, ((1,), (2,), (1,))))
        self.assertIsNone(fewest_in_payment(((2,), (2,)), (0, 1, 1)))
        self.same(fewest_in_payment(((1, 1, 2), ()), (0, 1, 2)), (1, ((1, 1), (2,))))

    def test_the_errors_in_their_order(self):
        self.fails(BadSplit, (0, "many"), fewest_in_payment, (), None)
        self.fails(BadDebt, ("debt",), fewest_in_payment, SPLIT, None)
        self.fails(BadDebt, ("persons",), fewest_in_payment, SPLIT, (0, 3, 1))
        self.fails(BadDebt, ("amount",), fewest_in_payment, SPLIT, (0, 1, 3))


class Wish(Case):
    def test_the_first_split_with_the_fewest_coins_moved(self):
        later = 0
        for split in small_splits(step=4) + splits_in_order((1, 1, 2, 2, 3), 2)[::5]:
            pool, people = pool_by_purses(split), len(split)
            wishes = wishes_by_bars(sum(pool), people)
            for wish in wishes[::1 if people < 4 else 9]:
                goals = [there for there in splits_in_order(pool, people) if worths_by_purses(there) == wish]
                told = fewest_to_wish(listed(split), list(wish))
                if not goals:
                    self.assertIsNone(told)
                    continue
                number, at = first_nearest(split, goals)
                self.same(told, (number, goals[at]))
                later += at > 0
        self.assertGreater(later, 0)

    def test_some_wishes(self):
        self.same(fewest_to_wish(SPLIT, [2, 1, 1]), (0, SPLIT))
        self.same(fewest_to_wish(SPLIT, (1, 1, 2)), (2, ((1,), (1,), (2,))))
        self.assertIsNone(fewest_to_wish(((2,), (2,)), (1, 3)))
        self.same(fewest_to_wish(((), ()), (0, 0)), (0, ((), ())))

    def test_the_errors_in_their_order(self):
        self.fails(BadSplit, (0, "many"), fewest_to_wish, (), None)
        self.fails(BadWish, (0, "many"), fewest_to_wish, SPLIT, None)
        self.fails(BadWish, (1, "number"), fewest_to_wish, SPLIT, (4, True))
        self.fails(BadWish, (2, "sum"), fewest_to_wish, SPLIT, (4, 1))
        for wish in ((4,), (2, 2), (1, 1, 1, 1), (0, 0, 4, 0, 0)):
            self.fails(BadSplits, ("people",), fewest_to_wish, SPLIT, wish)
        for pool, people in MANY:
            split = (pool,) + ((),) * (people - 1)
            wish = (0,) * (people - 1) + (sum(pool),)
            self.fails(BadSplits, ("people",), fewest_to_wish, split, (sum(pool),))
            self.fails(TooMany, (400,), fewest_to_wish, split, wish)
        for pool, people in JUST:
            split = (pool,) + ((),) * (people - 1)
            wish = (0,) * (people - 1) + (sum(pool),)
            self.same(fewest_to_wish(split, wish), (len(pool), split[::-1]))


class Row(Case):
    def test_no_play_moves_fewer_coins(self):
        unlike, halted = 0, 0
        for split, debts in rows():
            plays = plays_by_search(split, debts)
            told = cheapest_row(listed(split), listed(debts))
            if not plays:
                self.same(told, Halted(most_paid(split, debts)))
                halted += 1
                continue
            costs = [sum(map(far, play, play[1:])) for play in plays]
            self.assertIsInstance(told, PaidRow)
            self.assertFalse(has_list(told))
            self.assertEqual(told.moved, min(costs))
            self.assertIn(told.splits, plays)
            self.assertEqual(costs[plays.index(told.splits)], told.moved)
            unlike += min(costs) < max(costs)
            self.assertGreaterEqual(told.moved, far(split, told.splits[-1]))
            self.assertGreaterEqual(told.moved, fewest_to_wish(split, worths_after(split, debts))[0])
        self.assertGreater(unlike, 0)
        self.assertGreater(halted, 0)

    def test_the_place_where_it_halts(self):
        for split, debts in rows():
            told = cheapest_row(split, debts)
            if isinstance(told, Halted):
                self.assertEqual(plays_by_search(split, debts[:told.place + 1]), [])
                self.assertNotEqual(plays_by_search(split, debts[:told.place]), [])

    def test_some_rows(self):
        self.same(cheapest_row([[2], [1], [1]], []), PaidRow(0, (SPLIT,)))
        self.same(cheapest_row([[2], [1], [1]], [[1, 2, 1]]), PaidRow(1, (SPLIT, ((2,), (), (1, 1)))))
        self.same(cheapest_row(SPLIT, ((1, 2, 1), (0, 1, 1))), Halted(1))
        self.same(cheapest_row(((2,), ()), ((0, 1, 1), (0, 1, 1))), Halted(0))
        # Here the first payment must not be the cheapest one of all.
        split, debts = ((1, 1, 2), (), ()), ((0, 1, 2), (1, 2, 1))
        self.assertEqual(fewest_in_payment(split, debts[0]), (1, ((1, 1), (2,), ())))
        self.same(cheapest_row(split, debts), PaidRow(3, (split, ((2,), (1, 1), ()), ((2,), (1,), (1,)))))

    def test_the_errors_in_their_order(self):
        self.fails(BadSplit, (0, "many"), cheapest_row, (), None)
        self.fails(BadDebts, (0, "many"), cheapest_row, SPLIT, None)
        self.fails(BadDebts, (1, "amount"), cheapest_row, SPLIT, ((1, 2, 1), (1, 2, 1)))
        for pool, people in MANY:
            split = (pool,) + ((),) * (people - 1)
            self.fails(BadDebts, (0, "debt"), cheapest_row, split, (None,))
            for debts in ((), ((0, 1, 1),), ((0, 1, sum(pool)),)):
                self.fails(TooMany, (400,), cheapest_row, split, debts)
        for pool, people in JUST:
            split = (pool,) + ((),) * (people - 1)
            self.same(cheapest_row(split, ()), PaidRow(0, (split,)))
            debts = ((0, 1, 6), (1, 0, 6)) * 6
            told = cheapest_row(split, debts)
            self.assertEqual(len(told.splits), 13)

    def test_great_coins_are_answered_at_once(self):
        with at_once():
            coins = (COIN,) * 11
            split = (coins, (COIN - 1,), ())
            self.same(cheapest_row(split[:2], ((0, 1, 1),) * 2), Halted(1))
            self.assertEqual(cheapest_row(split[:2], ((0, 1, COIN), (1, 0, COIN)) * 6).moved, 12)
            self.assertEqual(fewest_in_payment((tuple(1 << at for at in range(12)), ()), (0, 1, 4095))[0], 12)


if __name__ == "__main__":
    unittest.main()
