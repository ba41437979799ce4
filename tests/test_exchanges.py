"""7.2 and 7.3: exchanges and least exchanges."""

import random
import unittest
from itertools import islice, product

from anyworths.errors import BadExchange, BadSplit
from anyworths.exchanges import after_exchange, after_exchanges, check_exchange, exchanges_of, is_least, least_parts
from anyworths.exchanges import resplits
from tests.roads import Case, at_once, exchanges_by_lots, handed, least_by_pairs, least_exchanges, listed, lot_key
from tests.roads import pool_by_purses, rest_by_counts, small_splits, splits_in_order, worths_by_purses

COIN = 10 ** 9
SPLIT = ((2,), (), (1, 1))
EXCHANGE = (0, 2, (2,), (1, 1))
SPLITS = small_splits() + [
    split for pool, people in (
        ((1, 1, 2, 2), 2), ((1, 1, 2, 2), 3), ((1, 2, 3, 4), 2), ((1, 2, 3, 4, 5), 2), ((1, 1, 2, 3, 3), 3),
        ((2, 2, 3, 3, 4), 2), ((1, 1, 1, 1, 2, 2, 4), 2), ((1, 2, 3, 4, 5, 6), 2),
    ) for split in splits_in_order(pool, people)[::3]
]


def back_lists(exchange):
    """The exchange as lists, with coins in another order."""
    one, other, lot, back = exchange
    return [one, other, list(lot)[::-1], list(back)[::-1]]


class Checked(Case):
    def test_every_exchange_is_taken(self):
        for split in SPLITS:
            for exchange in exchanges_by_lots(split):
                self.same(check_exchange(split, exchange), exchange)
                self.same(check_exchange(listed(split), back_lists(exchange)), exchange)
                self.same(after_exchange(split, exchange), handed(split, *exchange))

    def test_nothing_else_is_taken(self):
        for split in small_splits(step=5):
            taken = exchanges_by_lots(split)
            lots = sorted({lot for exchange in taken for lot in exchange[2:]} | {(), (1,), (2,), (1, 2)})
            for one, other in product(range(-1, len(split) + 1), repeat=2):
                for lot, back in product(lots, repeat=2):
                    if (one, other, lot, back) not in taken:
                        with self.assertRaises(BadExchange):
                            check_exchange(split, (one, other, lot, back))

    def test_each_word(self):
        for thing in (None, True, 0, "0123", (), (0, 2, (2,)), EXCHANGE + ((),), {0: 1}, {0, 1, 2, 3}, range(4)):
            self.fails(BadExchange, (0, "exchange"), check_exchange, SPLIT, thing)
        for one, other in ((2, 0), (0, 0), (0, 3), (3, 4), (-1, 2), (True, 2), (False, 2), (0, True), (0, None),
                           ("0", 2), (0, 2.0), (None, None), ((0,), 2), (-3, -1)):
            self.fails(BadExchange, (0, "persons"), check_exchange, SPLIT, (one, other, None, None))
        for lot in (None, 2, "2", {2}, (1,), (2, 2), (1, 1), (2, 1), (0,), (True,), (None,), (2,) * 13, [COIN + 1]):
            self.fails(BadExchange, (0, "lot"), check_exchange, SPLIT, (0, 2, lot, None))
        for back in (None, 1, "11", {1}, (2,), (1, 1, 1), (0,), (True, True), (1,) * 13):
            self.fails(BadExchange, (0, "back"), check_exchange, SPLIT, (0, 2, (2,), back))
        for lot, back in (((2,), (1,)), ((2,), ()), ((), (1, 1)), ((), ())):
            self.fails(BadExchange, (0, "sums"), check_exchange, SPLIT, (0, 2, lot, back))
        self.fails(BadExchange, (0, "sums"), check_exchange, ((), ()), (0, 1, (), ()))
        for lot in ((1,), (1, 2), [2, 1]):
            self.fails(BadExchange, (0, "alike"), check_exchange, ((2, 1), (1, 2, 4)), (0, 1, lot, list(lot)))
        self.fails(BadExchange, (0, "persons"), check_exchange, ((1,),), (0, 0, (1,), (1,)))

    def test_the_first_wrong_argument_is_told(self):
        self.fails(BadSplit, (0, "many"), check_exchange, None, None)
        for function in (check_exchange, after_exchange, is_least, least_parts):
            self.fails(BadSplit, (1, "purse"), function, ((), (0,)), None)
            self.fails(BadExchange, (0, "exchange"), function, SPLIT, None)
            self.fails(BadExchange, (0, "sums"), function, SPLIT, (0, 2, (2,), (1,)))
        self.fails(BadSplit, (0, "many"), after_exchanges, (), None)
        self.fails(BadSplit, (0, "many"), resplits, (), None, None)


class Rows(Case):
    def test_exchanges_one_after_another(self):
        chance = random.Random(7)
        for split in SPLITS[::3]:
            row, now = [], split
            for _ in range(chance.randint(0, 5)):
                if exchanges_by_lots(now):
                    row.append(chance.choice(exchanges_by_lots(now)))
                    now = handed(now, *row[-1])
            self.same(after_exchanges(split, row), now)
            self.same(after_exchanges(listed(split), [back_lists(exchange) for exchange in row]), now)

    def test_none_and_four_hundred(self):
        self.same(after_exchanges([[2], [], [1, 1]], ()), SPLIT)
        there = (0, 2, (1, 1), (2,))
        self.same(after_exchanges(SPLIT, [EXCHANGE, there] * 200), SPLIT)
        self.same(after_exchanges(SPLIT, ([EXCHANGE, there] * 200)[:399]), ((1, 1), (), (2,)))
        for things in ([EXCHANGE, there] * 200 + [EXCHANGE], [None] * 401, None, 0, "", {}, {EXCHANGE}):
            self.fails(BadExchange, (0, "many"), after_exchanges, SPLIT, things)

    def test_the_first_that_is_refused(self):
        there = (0, 2, (1, 1), (2,))
        self.fails(BadExchange, (1, "lot"), after_exchanges, SPLIT, (EXCHANGE, EXCHANGE))
        self.fails(BadExchange, (0, "lot"), after_exchanges, SPLIT, (there, None))
        self.fails(BadExchange, (2, "exchange"), after_exchanges, SPLIT, (EXCHANGE, there, None, None))
        self.fails(BadExchange, (399, "persons"), after_exchanges, SPLIT, ([EXCHANGE, there] * 200)[:399] + [
            (2, 0, (), ())])
        self.fails(BadExchange, (1, "back"), after_exchanges, SPLIT, (EXCHANGE, (0, 2, (1, 1), (1, 1))))
        self.fails(BadExchange, (1, "sums"), after_exchanges, SPLIT, (EXCHANGE, (0, 2, (1,), (2,))))
        self.fails(BadExchange, (1, "alike"), after_exchanges, ((2, 3), (1, 1, 3)), [
            (0, 1, (2,), (1, 1)), (0, 1, (3,), (3,))])


class Least(Case):
    def test_no_other_pair_within(self):
        for split in SPLITS:
            for exchange in exchanges_by_lots(split):
                wanted = least_by_pairs(*exchange[2:])
                self.assertIs(is_least(split, exchange), wanted)
                self.assertIs(is_least(listed(split), back_lists(exchange)), wanted)

    def test_some_are_and_some_are_not(self):
        self.assertTrue(is_least(SPLIT, EXCHANGE))
        self.assertTrue(is_least(((3, 3, 3), (2,) * 5), (0, 1, (3, 3), (2, 2, 2))))
        self.assertFalse(is_least(((1, 2), (1, 1, 1)), (0, 1, (1, 2), (1, 1, 1))))
        # Just one sum between none and all of one side.
        for one, other in (((2, 2), (1, 1, 1, 1)), ((3, 3), (1, 2, 3)), ((4, 4), (1, 1, 2, 4)), ((2, 2), (1, 1, 2))):
            self.assertFalse(is_least((one, other), (0, 1, one, other)))
            self.assertFalse(is_least((other, one), (0, 1, other, one)))
            self.assertNotIn((0, 1, one, other), list(exchanges_of((one, other))))
        self.assertTrue(is_least(((3, 4), (2, 5)), (0, 1, (3, 4), (2, 5))))
        self.assertFalse(is_least(((3, 4), (1, 2, 4)), (0, 1, (3, 4), (1, 2, 4))))
        self.assertFalse(is_least(((3, 4, 1), (1, 2, 5)), (0, 1, (3, 4, 1), (1, 2, 5))))

    def test_all_least_exchanges_in_their_order(self):
        for split in SPLITS:
            yielded = list(exchanges_of(split))
            self.assertEqual(yielded, least_exchanges(split))
            self.assertEqual(yielded, sorted(set(yielded), key=lambda told: (
                told[0], told[1], lot_key(told[2]), lot_key(told[3]))))
            self.assertEqual(list(exchanges_of(listed(split))), yielded)
        self.assertEqual(list(exchanges_of(SPLIT)), [EXCHANGE])
        self.assertEqual(list(exchanges_of(((1, 2, 3),))), [])
        self.assertEqual(list(exchanges_of(((), ()))), [])
        self.assertEqual(list(exchanges_of(((2,), (2,), (1,)))), [])

    def test_least_parts_do_the_same_together(self):
        several = 0
        for split in SPLITS:
            for exchange in exchanges_by_lots(split):
                one, other, lot, back = exchange
                parts = least_parts(split, exchange)
                self.assertIsInstance(parts, tuple)
                self.assertGreater(len(parts), 0)
                now = split
                for part in parts:
                    self.assertEqual(part[:2], (one, other))
                    self.assertTrue(is_least(now, part))
                    self.same(check_exchange(now, part), part)
                    now = handed(now, *part)
                self.assertEqual(now, handed(split, *exchange))
                self.assertIsNotNone(rest_by_counts(lot, [coin for part in parts for coin in part[2]]))
                self.assertIsNotNone(rest_by_counts(back, [coin for part in parts for coin in part[3]]))
                self.assertEqual(after_exchanges(split, parts), now)
                self.same(least_parts(listed(split), back_lists(exchange)), parts)
                several += len(parts) > 1
                if is_least(split, exchange):
                    self.assertEqual(parts, (exchange,))
        self.assertGreater(several, 0)


class Resplits(Case):
    def test_all_splits_with_other_purses_of_two(self):
        for split in SPLITS:
            worths = worths_by_purses(split)
            whole_row = splits_in_order(pool_by_purses(split), len(split))
            for one, other in product(range(len(split)), repeat=2):
                if one == other:
                    continue
                third = [person for person in range(len(split)) if person not in (one, other)]
                wanted = [
                    there for there in whole_row if worths_by_purses(there) == worths
                    and all(there[person] == split[person] for person in third)
                ]
                wanted = sorted(wanted, key=lambda there: lot_key(there[one]))
                self.assertIn(split, wanted)
                self.assertEqual(list(resplits(split, one, other)), wanted)
                self.assertEqual(list(resplits(listed(split), one, other)), wanted)

    def test_persons(self):
        self.assertEqual(list(resplits(SPLIT, 0, 2)), [SPLIT, ((1, 1), (), (2,))])
        self.assertEqual(list(resplits(SPLIT, 2, 0)), [((1, 1), (), (2,)), SPLIT])
        for one, other in ((0, 0), (0, 3), (3, 0), (-1, 0), (True, 0), (0, True), (None, 0), (0, "1"), ((0,), 1)):
            self.fails(BadExchange, (0, "persons"), resplits, SPLIT, one, other)
        self.fails(BadExchange, (0, "persons"), resplits, ((1,),), 0, 0)


class Great(Case):
    def test_twelve_coins_are_answered_at_once(self):
        with at_once():
            halves = (tuple(range(1, 12, 2)), tuple(range(2, 13, 2)))
            self.assertEqual(list(exchanges_of(halves)), least_exchanges(halves))
            coins = tuple(COIN - coin for coin in (0, 1, 2, 3, 5, 8, 13, 21, 34, 55, 89))
            self.assertEqual(list(exchanges_of((coins, (COIN,)))), [])
            powers = tuple(1 << at for at in range(11))
            split = (powers, (1 << 11,), (), (), ())
            self.assertEqual(list(exchanges_of(split)), [])
            self.assertEqual(list(exchanges_of((powers, (1 << 10,)))), [])
            self.assertEqual(len(list(islice(exchanges_of(((1,) * 6, (2,) * 3, (3,) * 3)), 9))), 3)
            self.assertEqual(least_parts(((COIN,) * 6, (COIN // 2,) * 6), (0, 1, (COIN,) * 3, (COIN // 2,) * 6)), (
                (0, 1, (COIN,), (COIN // 2,) * 2),) * 3)
            self.assertEqual(len(list(resplits((halves[0], halves[1], (), (), ()), 0, 1))), len(
                [lot for lot in range(1 << 12) if sum(at + 1 for at in range(12) if lot >> at & 1) == 36]))


if __name__ == "__main__":
    unittest.main()
