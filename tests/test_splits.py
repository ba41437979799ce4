"""1.4 to 1.7: splits, their numbers, and other names for the persons."""

import unittest
from itertools import permutations

from anyworths.errors import BadNumber, BadOrder, BadPeople, BadPool, BadSplit
from anyworths.splits import all_splits, check_purses, check_split, count_splits, pool_of, renamed_split
from anyworths.splits import split_by_number, split_number, worths_of
from tests.roads import Case, at_once, pools_up_to, split_key, splits_by_owners

COIN = 10 ** 9
SMALL = [(pool, people) for pool in pools_up_to(4, 3) for people in range(1, 6)]
SMALL += [((1, 1, 2, 3, 5), people) for people in range(1, 4)] + [((2,) * 6, 4), ((1, 1, 1, 2, 2, 2), 3)]
GREAT = tuple(range(COIN - 11, COIN + 1))


class Purses(Case):
    def test_a_split_that_stands_alone(self):
        self.same(check_purses([[2, 1], (), [3]]), ((1, 2), (), (3,)))
        self.same(check_purses([()]), ((),))
        self.same(check_purses(([COIN],) * 5), ((COIN,),) * 5)

    def test_one_to_five_purses(self):
        self.fails(BadSplit, (0, "many"), check_purses, [])
        self.fails(BadSplit, (0, "many"), check_purses, ((),) * 6)
        self.same(check_purses(((),) * 5), ((),) * 5)

    def test_at_most_twelve_coins_in_all(self):
        self.same(check_purses([[1] * 6, [], [2] * 6]), ((1,) * 6, (), (2,) * 6))
        self.fails(BadSplit, (2, "coins"), check_purses, [[1] * 6, [], [2] * 7, None])
        self.fails(BadSplit, (0, "purse"), check_purses, [[1] * 13, [1]])

    def test_one_purse_is_checked_wholly_before_the_next(self):
        self.fails(BadSplit, (1, "coins"), check_purses, [[1] * 12, [1], [0]])
        self.fails(BadSplit, (1, "purse"), check_purses, [[1] * 12, [0], [1]])
        self.fails(BadSplit, (0, "purse"), check_purses, [[True], [1] * 13])

    def test_pools_and_worths(self):
        self.same(pool_of([[3, 1], [], [2]]), (1, 2, 3))
        self.same(worths_of([[3, 1], [], [2]]), (4, 0, 2))
        self.same(pool_of([()]), ())
        self.same(worths_of([[COIN] * 12]), (12 * COIN,))
        for pool, people in SMALL:
            for split in splits_by_owners(pool, people):
                self.assertEqual(pool_of(split), pool)
                self.assertEqual(worths_of(split), tuple(sum(purse) for purse in split))


class SplitsOfAPool(Case):
    def test_all_splits_of_a_pool_are_taken(self):
        for pool, people in SMALL:
            for split in splits_by_owners(pool, people):
                told = [list(purse)[::-1] for purse in split]
                self.same(check_split(list(pool), people, told), split)

    def test_the_number_of_purses(self):
        for split in (None, "12", {}, [], [[1]], [[1], [], []], [None] * 3):
            self.fails(BadSplit, (0, "many"), check_split, [1], 2, split)

    def test_purses_that_are_no_pool(self):
        self.fails(BadSplit, (0, "purse"), check_split, [1, 2], 2, [[0], [9]])
        self.fails(BadSplit, (1, "purse"), check_split, [1, 2], 2, [[1], None])
        self.fails(BadSplit, (2, "purse"), check_split, [1, 2], 3, [[1], [], [True]])

    def test_coins_that_are_not_left_of_the_pool(self):
        self.fails(BadSplit, (0, "coin"), check_split, [1, 2], 2, [[3], [0]])
        self.fails(BadSplit, (1, "coin"), check_split, [1, 1, 2], 3, [[1, 1], [1], None])
        self.fails(BadSplit, (1, "coin"), check_split, (), 2, [[], [1]])

    def test_coins_in_no_purse(self):
        self.fails(BadSplit, (2, "lacking"), check_split, [1, 2], 2, [[1], []])
        self.fails(BadSplit, (1, "lacking"), check_split, [1], 1, [[]])
        self.fails(BadSplit, (5, "lacking"), check_split, [1], 5, [[]] * 5)

    def test_pool_and_people_are_checked_ahead(self):
        self.fails(BadPool, (0, "coin"), check_split, [0], 0, None)
        self.fails(BadPeople, (), check_split, [1], 6, None)


class AllSplits(Case):
    def test_each_once_in_the_told_order(self):
        for pool, people in SMALL:
            splits = list(all_splits(pool[::-1], people))
            self.assertEqual(splits, sorted(splits_by_owners(pool, people), key=split_key))
            self.assertEqual(count_splits(pool, people), len(splits))

    def test_a_number_leads_to_the_split_and_back(self):
        for pool, people in SMALL:
            for number, split in enumerate(all_splits(pool, people)):
                self.assertEqual(split_number([list(purse)[::-1] for purse in split]), number)
                self.same(split_by_number(list(pool), people, number), split)

    def test_numbers_beyond_the_splits(self):
        for pool, people in SMALL:
            self.fails(BadNumber, (), split_by_number, pool, people, count_splits(pool, people))
            self.fails(BadNumber, (), split_by_number, pool, people, -1)
        self.fails(BadNumber, (), split_by_number, (1,), 2, True)
        self.fails(BadNumber, (), split_by_number, (1,), 2, None)

    def test_no_coins(self):
        for people in range(1, 6):
            self.assertEqual(list(all_splits((), people)), [((),) * people])
            self.assertEqual(count_splits((), people), 1)
            self.assertEqual(split_number([()] * people), 0)
            self.same(split_by_number((), people, 0), ((),) * people)

    def test_twelve_unlike_coins_and_five_people(self):
        with at_once():
            many = count_splits(GREAT, 5)
            self.assertEqual(many, 5 ** 12)
            self.assertEqual(split_number([(), (), (), (), GREAT]), 0)
            self.assertEqual(split_number([GREAT, (), (), (), ()]), many - 1)
            self.same(split_by_number(GREAT, 5, 0), ((), (), (), (), GREAT))
            self.same(split_by_number(GREAT, 5, many - 1), (GREAT, (), (), (), ()))
            for number in range(0, many, many // 7):
                self.assertEqual(split_number(split_by_number(GREAT, 5, number)), number)
            self.assertEqual(next(all_splits(GREAT, 5)), ((), (), (), (), GREAT))

    def test_twelve_alike_coins_and_five_people(self):
        self.assertEqual(count_splits([COIN] * 12, 5), 1820)
        self.assertEqual(count_splits([1] * 12, 1), 1)
        self.assertEqual(count_splits([1] * 6 + [COIN] * 6, 2), 49)


class Renamed(Case):
    def test_the_purse_of_each_person_becomes_that_of_the_told_one(self):
        self.same(renamed_split([[1], [2], [3]], (2, 0, 1)), ((2,), (3,), (1,)))
        split = ((), (1,), (2, 3), (4,), (5,))
        for people in range(1, 6):
            for order in permutations(range(people)):
                renamed = renamed_split(split[:people], list(order))
                for person in range(people):
                    self.assertEqual(renamed[order[person]], split[person])

    def test_orders_that_have_not_each_person_once(self):
        for order in (None, "01", {0: 0, 1: 1}, (), (0,), (0, 1, 2), (0, 0), (1, 2), (-1, 0), (False, True), (0, None)):
            self.fails(BadOrder, (), renamed_split, [[1], []], order)
        self.fails(BadSplit, (0, "purse"), renamed_split, [[0], []], (0, 0))


if __name__ == "__main__":
    unittest.main()
