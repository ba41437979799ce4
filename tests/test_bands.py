"""6.1 and 6.2: bands, and the debts that are asked within them."""

import unittest
from itertools import islice, product

from anyworths.bands import asked_debts, banded_splits, check_band, is_asked, is_banded
from anyworths.errors import BadAmount, BadBand, BadDebt, TooMany
from tests.roads import Case, asked_by_words, at_once, banded_by_worths, debts_by_worths, pools_up_to, splits_in_order

COIN = 10 ** 9
AMOUNT = 12 * COIN
BANDS = (None, (0, None), (1, None), (0, 1), (0, 2), (1, 2), (1, 3), (2, 2), (0, 0), (3, 4), (2, None), (50, 60))
SPLITS = [split for pool in pools_up_to(3, 3) for people in (1, 2, 3) for split in splits_in_order(pool, people)]
SPLITS += [split for pool in pools_up_to(2, 3) for people in (4, 5) for split in splits_in_order(pool, people)]
# Pools with just 400 splits, and with more: of the first two 405, as no pool has 401 to 404.
JUST = [((1, 2, 3, 4, 5, 5, 5, 5, 6, 6, 6, 6), 2), ((1, 2, 2, 3, 3), 4), ((1, 1, 1, 2, 2, 2), 4)]
MANY = [((1, 1, 2, 2, 3, 3, 4, 4, 5, 5, 5, 5), 2), ((1, 2, 3, 4, 4, 4, 4), 3), ((1, 2, 3, 4, 5, 6, 7, 8, 9), 2),
        ((1, 1, 1, 1, 2, 3, 4, 5), 3),
        ((1, 1, 1, 1, 1, 2), 5), ((1, 2, 3, 4), 5)]


class Bands(Case):
    def test_check_band(self):
        self.same(check_band(None), (0, None))
        self.same(check_band([0, None]), (0, None))
        self.same(check_band((3, 3)), (3, 3))
        self.same(check_band([0, AMOUNT]), (0, AMOUNT))
        self.same(check_band((AMOUNT, AMOUNT)), (AMOUNT, AMOUNT))
        self.same(check_band((AMOUNT, None)), (AMOUNT, None))
        for band in (0, True, "01", (), (1,), (1, 2, 3), {0: 1, 1: 2}, {1, 2}, range(2)):
            self.fails(BadBand, ("band",), check_band, band)
        for low in (None, True, False, -1, AMOUNT + 1, "1", 1.0, (1,)):
            self.fails(BadBand, ("low",), check_band, (low, -1))
        for high in (True, False, 2, -1, AMOUNT + 1, "3", 3.0, (3,)):
            self.fails(BadBand, ("high",), check_band, (3, high))

    def test_is_banded(self):
        for split, band in product(SPLITS, BANDS):
            wanted = split in banded_by_worths(tuple(sorted(sum(split, ()))), len(split), band)
            self.assertIs(is_banded(split, band=band), wanted)
        self.assertIs(is_banded([[2], [1]], band=[1, 2]), True)
        self.assertIs(is_banded([[2], []], band=[1, 2]), False)
        self.assertIs(is_banded([[3], [1]], band=[1, 2]), False)
        self.assertIs(is_banded([[3], []]), True)

    def test_banded_splits(self):
        for pool in pools_up_to(3, 3):
            for people, band in product((1, 2, 3), BANDS):
                wanted = banded_by_worths(pool, people, band)
                self.assertEqual(list(banded_splits(pool, people, band=band)), wanted)
            self.assertEqual(list(banded_splits(pool, 2)), splits_in_order(pool, 2))

    def test_four_hundred_splits(self):
        for pool, people in JUST:
            self.assertEqual(len(list(banded_splits(pool, people))), 400)
            self.assertLess(len(list(banded_splits(pool, people, band=(1, None)))), 400)
        for pool, people in MANY:
            for band in (None, (0, 0), (AMOUNT, AMOUNT)):
                with self.assertRaises(TooMany) as caught:
                    list(banded_splits(pool, people, band=band))
                self.assertEqual(caught.exception.most, 400)


class Asked(Case):
    def test_asked_debts(self):
        for split, band, most in product(SPLITS[::3], BANDS, (None, 1, 2, 50)):
            wanted = asked_by_words(split, band, most)
            self.assertEqual(list(asked_debts(split, band=band, most=most)), wanted)
            for debt in debts_by_worths(split):
                self.assertIs(is_asked(split, debt, band=band, most=most), debt in wanted)

    def test_without_bounds_all_debts_are_asked(self):
        for split in SPLITS:
            self.assertEqual(list(asked_debts(split)), debts_by_worths(split))
        self.assertEqual(list(asked_debts([[2], [1]], band=[1, None])), [(0, 1, 1)])
        self.assertEqual(list(asked_debts([[2], [1]], band=[0, 2])), [(0, 1, 1)])
        self.assertIs(is_asked([[2], [1]], [0, 1, 2], band=None, most=1), False)
        self.assertIs(is_asked([[2], [1]], [0, 1, 2]), True)

    def test_the_split_need_not_be_within_the_band(self):
        self.assertEqual(list(asked_debts(((5,), (), ()), band=(2, 3))), [
            (0, 1, 1), (0, 1, 2), (0, 1, 3), (0, 2, 1), (0, 2, 2), (0, 2, 3)])
        self.assertIs(is_asked(((5,), (), ()), (0, 1, 3), band=(2, 3)), True)
        self.assertIs(is_asked(((5,), (), ()), (0, 1, 4), band=(2, 3)), False)

    def test_great_amounts_are_answered_at_once(self):
        with at_once():
            split = ((COIN,) * 6, (COIN,) * 6)
            self.assertEqual(list(islice(asked_debts(split), 2)), [(0, 1, 1), (0, 1, 2)])
            self.assertIs(is_asked(split, (0, 1, 6 * COIN), band=(0, AMOUNT)), True)
            self.assertIs(is_asked(split, (0, 1, 6 * COIN), band=(0, AMOUNT - 1)), False)
            self.assertIs(is_asked(split, (0, 1, 6 * COIN), band=(1, None)), False)
            self.assertIs(is_asked(split, (0, 1, 6 * COIN), most=AMOUNT), True)
            self.assertIs(is_asked(split, (0, 1, 6 * COIN), most=6 * COIN - 1), False)

    def test_the_order_of_the_checks(self):
        split = ((1,), (2,))
        for debt, what in (((0, 1, 2), "amount"), ((0, 0, 1), "persons"), (None, "debt")):
            with self.assertRaises(BadDebt) as caught:
                is_asked(split, debt, band=0, most=0)
            self.assertEqual(caught.exception.what, what)
        with self.assertRaises(BadBand):
            is_asked(split, (0, 1, 1), band=0, most=0)
        with self.assertRaises(BadAmount):
            is_asked(split, (0, 1, 1), band=None, most=0)

    def test_band_and_most_are_given_by_keyword_alone(self):
        for call in (lambda: is_banded(((),), None), lambda: list(banded_splits((), 1, None)),
                     lambda: list(asked_debts(((),), None)), lambda: is_asked(((1,), ()), (0, 1, 1), None)):
            with self.assertRaises(TypeError):
                call()


if __name__ == "__main__":
    unittest.main()
