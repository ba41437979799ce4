"""4.12 to 4.14: steps."""

import unittest
from itertools import product
from math import gcd

from anyworths.errors import BadPool, BadStep, BadWish, TooMany
from anyworths.searching import NoSplit, any_split
from anyworths.serving import Unserved, serves
from anyworths.steps import check_step, near_split, near_wish, parted_pool, serves_steps, serving_step
from anyworths.steps import step_of, step_wishes, times_pool
from tests.roads import Case, at_once, pool_by_purses, pools_up_to, wishes_by_bars, worths_by_owners
from tests.roads import worths_by_purses
from tests.test_searching import JUST_LAYERS, MANY_LAYERS

COIN = 10 ** 9
AMOUNT = 12 * COIN
POOLS = pools_up_to(4, 6) + [(4, 4, 8), (3, 3, 6, 9), (2, 2, 4, 6, 8), (6, 10, 15), (5, 5, 10, 20)]


def on_step(wish, step):
    return all(number % step == 0 for number in wish)


def is_step_served(pool, people, step):
    """Whether every wish on the step has a split."""
    given = worths_by_owners(pool, people)
    return all(wish in given for wish in wishes_by_bars(sum(pool), people) if on_step(wish, step))


class Steps(Case):
    def test_step_of(self):
        for pool in POOLS:
            self.assertEqual(step_of(pool), gcd(*pool))
        self.assertEqual(step_of(()), 0)
        self.assertEqual(step_of([12, 18, 30]), 6)
        self.assertEqual(step_of((COIN,) * 12), COIN)

    def test_check_step(self):
        for pool in POOLS:
            for step in range(1, 8):
                if all(coin % step == 0 for coin in pool):
                    self.assertEqual(check_step(pool, step), step)
                    self.same(parted_pool(pool, step), tuple(coin // step for coin in pool))
                else:
                    self.fails(BadStep, (), check_step, pool, step)
                    self.fails(BadStep, (), parted_pool, pool, step)
        self.assertEqual(check_step((), 10 ** 20), 10 ** 20)
        self.same(parted_pool((), 7), ())
        self.same(parted_pool([6, 2, 4], 2), (1, 2, 3))

    def test_times_pool(self):
        self.same(times_pool([3, 1, 2], 4), (4, 8, 12))
        self.same(times_pool((), 10 ** 30), ())
        self.same(times_pool((1,) * 12, COIN), (COIN,) * 12)
        self.fails(BadPool, (0, "coin"), times_pool, (1,), COIN + 1)
        self.fails(BadPool, (2, "coin"), times_pool, [COIN, 1, 2, COIN // 2 + 1], 2)
        self.fails(BadPool, (1, "coin"), times_pool, [5, 1, 3], COIN // 2)

    def test_parted_and_multiplied_is_the_pool(self):
        for pool in POOLS:
            if pool:
                self.assertEqual(times_pool(parted_pool(pool, step_of(pool)), step_of(pool)), pool)


class Served(Case):
    def test_no_wish_that_is_not_on_the_step_has_a_split(self):
        for pool in POOLS:
            for people in (1, 2, 3):
                self.assertTrue(all(on_step(wish, step_of(pool)) for wish in worths_by_owners(pool, people) if pool))

    def test_none_exactly_if_every_wish_on_the_step_has_a_split(self):
        for pool, people in product(POOLS, (1, 2, 3)):
            for step in range(1, 8):
                if not all(coin % step == 0 for coin in pool):
                    continue
                told = serves_steps(pool, people, step)
                self.assertEqual(told is None, is_step_served(pool, people, step))
                if told is not None:
                    plain = serves(tuple(coin // step for coin in pool), people)
                    self.same(told, Unserved(plain.place, tuple(number * step for number in plain.wish)))
                    self.assertTrue(on_step(told.wish, step))
                    self.assertNotIn(told.wish, worths_by_owners(pool, people))

    def test_serving_step(self):
        for pool, people in product(POOLS, (1, 2, 3)):
            step = step_of(pool)
            wanted = step if not pool or is_step_served(pool, people, step) else None
            self.assertEqual(serving_step(pool, people), wanted)
            if people > 1 and pool:
                # No other step is served: not all wishes on a lesser one, and coins are no multiples of others.
                served = [other for other in range(1, step + 1)
                          if step % other == 0 and is_step_served(pool, people, other)]
                self.assertEqual(served, [] if wanted is None else [step])
        self.assertEqual(serving_step((), 5), 0)
        self.assertEqual(serving_step([4, 6], 1), 2)
        self.assertEqual(serving_step([6, 3, 3], 2), 3)
        self.assertEqual(serving_step([6, 3, 3], 3), 3)
        self.assertIsNone(serving_step([6, 3, 3], 4))
        self.assertEqual(serving_step((COIN,) * 12, 5), COIN)

    def test_some_wrong_steps(self):
        self.fails(BadStep, (), serves_steps, (2, 4), 2, 4)
        self.same(serves_steps((2, 8), 2, 2), Unserved(1, (6, 4)))
        self.assertIsNone(serves_steps((), 5, 10 ** 20))


class Wishes(Case):
    def test_step_wishes(self):
        for total, people, step in product(range(13), range(1, 5), range(1, 6)):
            wanted = [wish for wish in wishes_by_bars(total, people) if on_step(wish, step)]
            self.assertEqual(list(step_wishes(total, people, step)), wanted)
        self.assertEqual(list(step_wishes(0, 2, 10 ** 20)), [(0, 0)])
        self.assertEqual(list(step_wishes(7, 1, 7)), [(7,)])
        self.assertEqual(list(step_wishes(7, 3, 8)), [])

    def test_no_other_wish_is_gone_through(self):
        with at_once():
            self.assertEqual(len(list(step_wishes(AMOUNT, 3, COIN))), 91)
            self.assertEqual(list(step_wishes(AMOUNT - 1, 5, COIN)), [])
            rows = step_wishes(AMOUNT, 5, 1)
            self.assertEqual([next(rows), next(rows)], [(0, 0, 0, 0, AMOUNT), (0, 0, 0, 1, AMOUNT - 1)])

    def test_near_wish_by_its_words(self):
        for total, people, step in product(range(13), range(1, 5), range(1, 6)):
            for wish in wishes_by_bars(total, people):
                if total % step != 0:
                    self.fails(BadStep, (), near_wish, wish, step)
                    continue
                near = near_wish(wish, step)
                low = [number - number % step for number in wish]
                for _ in range((total - sum(low)) // step):
                    lost = [number - other for number, other in zip(wish, low)]
                    low[lost.index(max(lost))] += step
                self.same(near, tuple(low))
                self.assertTrue(all(abs(one - other) < step for one, other in zip(wish, near)))

    def test_no_wish_on_the_step_is_nearer(self):
        for total, people, step in product((4, 6, 8, 12), (2, 3), (2, 3, 4)):
            for wish in wishes_by_bars(total, people):
                if total % step == 0:
                    others = [other for other in wishes_by_bars(total, people) if on_step(other, step)]
                    least = min(max(abs(a - b) for a, b in zip(wish, other)) for other in others)
                    near = near_wish(wish, step)
                    self.assertEqual(max(abs(a - b) for a, b in zip(wish, near)), least)

    def test_near_wishes_of_examples_and_edges(self):
        self.same(near_wish((3, 4, 5), 4), (4, 4, 4))
        self.same(near_wish([2, 2], 4), (4, 0))
        self.same(near_wish((1, 3, 3, 1), 4), (0, 4, 4, 0))
        self.same(near_wish((0, 0), 10 ** 20), (0, 0))
        self.same(near_wish((AMOUNT, AMOUNT), AMOUNT * 2), (AMOUNT * 2, 0))
        self.same(near_wish((AMOUNT - 1, 1), 5), (AMOUNT, 0))
        self.same(near_wish((AMOUNT - 1, AMOUNT, 1), 7 * AMOUNT // 7), (AMOUNT, AMOUNT, 0))
        self.fails(BadStep, (), near_wish, (1, 2), 2)
        self.fails(BadStep, (), near_wish, (1, 2), 4)
        self.fails(BadWish, (1, "number"), near_wish, (0, -1), None)


class Splits(Case):
    def test_near_split(self):
        for pool in POOLS:
            for people in (1, 2, 3):
                given = worths_by_owners(pool, people)
                for wish in wishes_by_bars(sum(pool), people):
                    told = near_split(pool, wish)
                    wanted = near_wish(wish, step_of(pool)) if pool else wish
                    self.assertEqual(told is not None, wanted in given, (pool, wish))
                    if told is not None:
                        self.assertEqual(worths_by_purses(told), wanted)
                        self.assertEqual(pool_by_purses(told), pool)
                    if serving_step(pool, people) is not None:
                        self.assertIsNotNone(told)

    def test_no_coins(self):
        self.same(near_split((), (0, 0, 0)), ((), (), ()))
        self.same(near_split([], [0]), ((),))

    def test_never_too_many_for_a_pool_that_serves_its_step(self):
        one = (1, 1, 1, 1, 2, 2, 3, 3, 4, 5, 6, 8)
        for pool in (times_pool(one, 100), times_pool(one, COIN // 8)):
            total = sum(pool)
            self.assertIsNotNone(serving_step(pool, 5))
            for wish in ((total,) + (0,) * 4, (total // 5,) * 4 + (total - total // 5 * 4,), (1, 2, 3, 4, total - 10)):
                with at_once():
                    told = near_split(pool, wish)
                    self.assertEqual(worths_by_purses(told), near_wish(wish, step_of(pool)))

    def test_too_many_layers(self):
        for pool, wish in MANY_LAYERS:
            self.assertEqual(step_of(pool), 1)
            self.assertIsNone(serving_step(pool, len(wish)))
            self.fails(TooMany, (400,), any_split, pool, wish)
            self.fails(TooMany, (400,), near_split, pool, wish)
            doubled = times_pool(pool, 2)
            self.fails(TooMany, (400,), near_split, doubled, [number * 2 for number in wish])
        for pool, wish in JUST_LAYERS:
            self.assertIsNone(serving_step(pool, len(wish)))
            told = near_split(pool, wish)
            self.assertEqual(told is None, isinstance(any_split(pool, wish), NoSplit))


if __name__ == "__main__":
    unittest.main()
