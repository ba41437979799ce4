"""2.8: all splits that meet a wish, and who holds which coins in them."""

import random
import unittest

from anyworths.errors import BadCoin, BadWish, TooMany
from anyworths.holding import count_splits_for, held_range, splits_for
from tests.roads import Case, at_once, pools_up_to, serves_by_formula, split_key, splits_by_owners, wishes_by_bars

COIN = 10 ** 9
SMALL = [(pool, people) for pool in pools_up_to(4, 3) for people in range(1, 4)]
SMALL += [(pool, people) for pool in pools_up_to(3, 3) for people in (4, 5)]
SMALL += [((1, 1, 2, 3, 5), 3), ((2, 2, 2, 4, 4, 6), 2)]
GREAT = tuple(range(COIN - 11, COIN + 1))
JUST_SPLITS = ((1, 1, 1, 2, 3, 3, 4, 5, 5, 6, 7, 9), (9, 12, 12, 14))
MANY_SPLITS = ((1, 1, 1, 1, 2, 2, 3, 4, 5, 5, 6, 7), (11, 7, 6, 7, 7))
MANY_LAYERS = ((10, 10, 10, 11, 12, 13, 13, 14, 15, 17, 20), (42, 34, 40, 29))


def meeting(pool, people):
    """All splits, in the told order, by their worths."""
    found = {}
    for split in sorted(splits_by_owners(pool, people), key=split_key):
        found.setdefault(tuple(sum(purse) for purse in split), []).append(split)
    return found


class Holding(Case):
    def test_all_splits_that_meet_a_wish_in_the_order_of_all_splits(self):
        for pool, people in SMALL:
            found = meeting(pool, people)
            for wish in wishes_by_bars(sum(pool), people):
                wanted = found.get(wish, [])
                self.assertEqual(list(splits_for(pool[::-1], list(wish))), wanted)
                self.assertEqual(count_splits_for(list(pool), wish), len(wanted))

    def test_the_least_and_the_greatest_number_of_coins(self):
        for pool, people in SMALL:
            found = meeting(pool, people)
            for wish in wishes_by_bars(sum(pool), people):
                for worth in set(pool):
                    result = held_range(list(pool)[::-1], list(wish), worth)
                    if wish not in found:
                        self.assertIsNone(result)
                        continue
                    held = [[split[person].count(worth) for split in found[wish]] for person in range(people)]
                    self.same(result, tuple((min(row), max(row)) for row in held))

    def test_who_can_have_the_greatest_coin_of_a_serving_pool(self):
        for pool, people in SMALL:
            if pool and serves_by_formula(pool, people):
                for wish in wishes_by_bars(sum(pool), people):
                    able = [most > 0 for _, most in held_range(pool, wish, pool[-1])]
                    self.assertEqual(able, [number >= pool[-1] for number in wish])

    def test_worths_that_are_no_coin_of_the_pool(self):
        for worth in (None, True, False, 0, 3, "1", 1.0, [1], (1,), {}, COIN + 1):
            self.fails(BadCoin, (), held_range, (1, 1, 2), (2, 2), worth)
        self.fails(BadCoin, (), held_range, (), (0,), 1)
        self.fails(BadCoin, (), held_range, (1, 5), (3, 3), 2)
        self.fails(BadWish, (2, "sum"), held_range, (1, 5), (3, 2), 2)
        self.assertIsNone(held_range((1, 5), (3, 3), 5))

    def test_no_coins_and_one_person(self):
        for people in range(1, 6):
            self.assertEqual(list(splits_for((), (0,) * people)), [((),) * people])
            self.assertEqual(count_splits_for((), (0,) * people), 1)
        self.assertEqual(list(splits_for([2, 1], [3])), [((1, 2),)])
        self.same(held_range([2, 1, 1], [4], 1), ((2, 2),))

    def test_just_four_hundred_splits(self):
        with at_once():
            splits = list(splits_for(*JUST_SPLITS))
            self.assertEqual(count_splits_for(*JUST_SPLITS), 400)
            self.assertEqual(len({str(split) for split in splits}), 400)
            self.assertEqual(splits, sorted(splits, key=split_key))
            for split in splits:
                self.assertEqual(tuple(sum(purse) for purse in split), JUST_SPLITS[1])
                self.assertEqual(tuple(sorted(coin for purse in split for coin in purse)), JUST_SPLITS[0])
            held = held_range(*JUST_SPLITS, 1)
            for person in range(4):
                counts = [split[person].count(1) for split in splits]
                self.assertEqual(held[person], (min(counts), max(counts)))

    def test_more_than_four_hundred_splits(self):
        self.assertEqual(count_splits_for(*MANY_SPLITS), 402)
        self.fails(TooMany, (400,), splits_for, *MANY_SPLITS)
        self.fails(TooMany, (400,), held_range, *MANY_SPLITS, 1)
        self.fails(BadCoin, (), held_range, *MANY_SPLITS, 8)

    def test_layers_of_more_than_four_hundred_entries(self):
        self.fails(TooMany, (400,), splits_for, *MANY_LAYERS)
        self.fails(TooMany, (400,), count_splits_for, *MANY_LAYERS)
        self.fails(TooMany, (400,), held_range, *MANY_LAYERS, 20)
        self.fails(BadCoin, (), held_range, *MANY_LAYERS, 21)

    def test_twelve_great_coins(self):
        with at_once():
            thirds = (6 * COIN, 6 * COIN)
            self.assertEqual(count_splits_for([COIN] * 12, thirds), 1)
            self.same(held_range([COIN] * 12, thirds, COIN), ((6, 6), (6, 6)))
            self.assertEqual(list(splits_for(GREAT, (sum(GREAT),))), [(GREAT,)])
            wish = (sum(GREAT[:3]), sum(GREAT[3:5]), sum(GREAT[5:7]), sum(GREAT[7:9]), sum(GREAT[9:]))
            self.fails(TooMany, (400,), splits_for, GREAT, wish)
            self.fails(TooMany, (400,), count_splits_for, GREAT, wish)
            self.assertEqual(list(splits_for(GREAT, (sum(GREAT) - 1, 1))), [])
            self.assertEqual(count_splits_for((1,) * 11 + (COIN,), (COIN + 2, 2, 2, 2, 3)), 1)

    def test_greater_pools_by_chance(self):
        chance = random.Random(3)
        for _ in range(25):
            people = chance.randint(2, 4)
            pool = tuple(sorted(chance.randint(1, 5) for _ in range(6)))
            found = meeting(pool, people)
            for wish in chance.sample(sorted(found), 4):
                self.assertEqual(list(splits_for(pool, wish)), found[wish])
                self.assertEqual(count_splits_for(pool, wish), len(found[wish]))


if __name__ == "__main__":
    unittest.main()
