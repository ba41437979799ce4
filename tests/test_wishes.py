"""1.8: wishes."""

import unittest
from itertools import islice

from anyworths.errors import BadAmount, BadPeople, BadWish
from anyworths.wishes import all_wishes, check_wish, count_wishes, even_wish
from tests.roads import Case, at_once, wishes_by_bars

AMOUNT = 12 * 10 ** 9


class Wishes(Case):
    def test_wishes_come_back_as_tuples_in_their_order(self):
        self.same(check_wish([3, 0, 1], 4), (3, 0, 1))
        self.same(check_wish((0,), 0), (0,))
        self.same(check_wish([AMOUNT, 0, 0, 0, 0], AMOUNT), (AMOUNT, 0, 0, 0, 0))

    def test_the_number_of_items(self):
        for wish in (None, "1", {}, [], (), (0,) * 6, [None] * 6):
            self.fails(BadWish, (0, "many"), check_wish, wish, 0)

    def test_the_first_item_that_is_no_amount(self):
        for thing in (None, True, "1", -1, AMOUNT + 1, [1], 1.0):
            self.fails(BadWish, (0, "number"), check_wish, (thing, None), 1)
            self.fails(BadWish, (2, "number"), check_wish, (1, 1, thing, None), 2)
            self.fails(BadWish, (4, "number"), check_wish, [0, 0, 0, 0, thing], 0)

    def test_the_sum(self):
        self.fails(BadWish, (2, "sum"), check_wish, (1, 1), 3)
        self.fails(BadWish, (5, "sum"), check_wish, (AMOUNT,) * 5, AMOUNT)
        self.fails(BadWish, (1, "sum"), check_wish, (0,), 1)

    def test_all_wishes_once_ascending(self):
        for total in range(9):
            for people in range(1, 6):
                wishes = list(all_wishes(total, people))
                self.assertEqual(wishes, sorted(wishes_by_bars(total, people)))
                self.assertEqual(count_wishes(total, people), len(wishes))

    def test_a_total_of_nothing(self):
        for people in range(1, 6):
            self.assertEqual(list(all_wishes(0, people)), [(0,) * people])
            self.assertEqual(count_wishes(0, people), 1)
            self.same(even_wish(0, people), (0,) * people)

    def test_even_wishes(self):
        self.same(even_wish(7, 3), (3, 2, 2))
        self.same(even_wish(AMOUNT, 5), (AMOUNT // 5,) * 5)
        self.same(even_wish(AMOUNT - 1, 5), (AMOUNT // 5,) * 4 + (AMOUNT // 5 - 1,))
        for total in range(30):
            for people in range(1, 6):
                wish = even_wish(total, people)
                self.assertEqual((sum(wish), len(wish)), (total, people))
                self.assertEqual(list(wish), sorted(wish, reverse=True))
                self.assertLessEqual(max(wish) - min(wish), 1)

    def test_great_totals(self):
        with at_once():
            self.assertEqual(count_wishes(AMOUNT, 1), 1)
            self.assertEqual(count_wishes(AMOUNT, 2), AMOUNT + 1)
            self.assertEqual(count_wishes(AMOUNT, 3), (AMOUNT + 1) * (AMOUNT + 2) // 2)
            self.assertEqual(count_wishes(AMOUNT, 4) * 6, (AMOUNT + 1) * (AMOUNT + 2) * (AMOUNT + 3))
            first = list(islice(all_wishes(AMOUNT, 5), 2))
            self.assertEqual(first, [(0, 0, 0, 0, AMOUNT), (0, 0, 0, 1, AMOUNT - 1)])

    def test_the_total_is_checked_first(self):
        for function in (all_wishes, count_wishes, even_wish):
            self.fails(BadAmount, (), function, AMOUNT + 1, 0)
            self.fails(BadAmount, (), function, True, None)
            self.fails(BadPeople, (), function, AMOUNT, 6)


if __name__ == "__main__":
    unittest.main()
