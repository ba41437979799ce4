"""1.1: pools, people, persons and amounts."""

import unittest

from anyworths.errors import BadAmount, BadPeople, BadPerson, BadPool
from anyworths.pools import check_amount, check_people, check_person, check_pool, counted_coins, total_of
from tests.roads import Case, pools_up_to

COIN = 10 ** 9
AMOUNT = 12 * 10 ** 9


class Pools(Case):
    def test_coins_come_back_ascending_in_a_tuple(self):
        self.same(check_pool([3, 1, 2, 1]), (1, 1, 2, 3))
        self.same(check_pool((COIN, 1)), (1, COIN))

    def test_none_to_twelve_coins_are_a_pool_and_thirteen_are_not(self):
        self.same(check_pool(()), ())
        self.same(check_pool([]), ())
        self.same(check_pool([COIN] * 12), (COIN,) * 12)
        self.fails(BadPool, (0, "many"), check_pool, [1] * 13)
        self.fails(BadPool, (0, "many"), check_pool, (0,) * 13)

    def test_the_first_thing_that_is_no_coin_is_told(self):
        self.fails(BadPool, (0, "coin"), check_pool, (0,))
        self.fails(BadPool, (2, "coin"), check_pool, (5, 1, COIN + 1, None))
        self.fails(BadPool, (11, "coin"), check_pool, (1,) * 11 + (True,))

    def test_totals(self):
        self.assertEqual(total_of(()), 0)
        self.assertEqual(total_of([1, 1, 2]), 4)
        self.assertEqual(total_of([COIN] * 12), AMOUNT)
        for pool in pools_up_to(4, 4):
            self.assertEqual(total_of(pool[::-1]), sum(pool))

    def test_counted_coins(self):
        self.same(counted_coins(()), ())
        self.same(counted_coins([3, 1, 3, 3, 2, 1]), ((1, 2), (2, 1), (3, 3)))
        self.same(counted_coins([COIN] * 12), ((COIN, 12),))
        for pool in pools_up_to(5, 4):
            counted = counted_coins(pool)
            self.assertEqual(tuple(worth for worth, many in counted for _ in range(many)), pool)
            self.assertEqual(len({worth for worth, _ in counted}), len(counted))


class Numbers(Case):
    def test_people(self):
        self.assertEqual([check_people(people) for people in range(1, 6)], [1, 2, 3, 4, 5])
        self.assertEqual(check_people(2, 2), 2)
        self.assertEqual(check_people(people=5, low=5), 5)
        self.fails(BadPeople, (), check_people, 0)
        self.fails(BadPeople, (), check_people, 6)
        self.fails(BadPeople, (), check_people, 1, 2)
        self.fails(BadPeople, (), check_people, True)

    def test_persons(self):
        self.assertEqual([check_person(5, person) for person in range(5)], [0, 1, 2, 3, 4])
        self.assertEqual(check_person(1, 0), 0)
        self.fails(BadPerson, (), check_person, 1, 1)
        self.fails(BadPerson, (), check_person, 5, 5)
        self.fails(BadPerson, (), check_person, 5, -1)
        self.fails(BadPerson, (), check_person, 2, True)
        self.fails(BadPerson, (), check_person, 2, False)

    def test_the_people_of_a_person_are_not_checked(self):
        self.assertEqual(check_person(9, 8), 8)
        self.fails(BadPerson, (), check_person, 0, 0)

    def test_amounts(self):
        self.assertEqual([check_amount(amount) for amount in (0, 1, AMOUNT)], [0, 1, AMOUNT])
        self.assertEqual(check_amount(1, 1), 1)
        self.assertEqual(check_amount(amount=7, low=7), 7)
        self.fails(BadAmount, (), check_amount, -1)
        self.fails(BadAmount, (), check_amount, AMOUNT + 1)
        self.fails(BadAmount, (), check_amount, 0, 1)
        self.fails(BadAmount, (), check_amount, 6, 7)
        self.fails(BadAmount, (), check_amount, False)


if __name__ == "__main__":
    unittest.main()
