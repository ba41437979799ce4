"""6.3 to 6.5: splits from which debts can be paid for ever."""

import unittest
from itertools import product

from anyworths.errors import BadAmount, BadBand, TooMany
from anyworths.lasting import is_lasting, lasting_splits, lasting_wishes, lasts_for, least_low, widest_bands
from anyworths.serving import serves
from tests.roads import Case, at_once, banded_by_worths, is_in_band, lasting_by_taking_away, pools_up_to
from tests.roads import wishes_by_bars, worths_by_purses
from tests.test_bands import BANDS, JUST, MANY

COIN = 10 ** 9
POOLS = [(pool, people) for pool in pools_up_to(3, 3) for people in (1, 2, 3) if len(pool) < 3 or people > 1][::2]
POOLS += [((1, 1, 1, 2), 2), ((1, 1, 1, 2), 3), ((1, 1, 2, 2), 2), ((1, 2, 4), 2), ((1, 3, 3), 2), ((1, 1, 1, 1), 3)]
POOLS += [((), 4), ((1, 1), 4), ((1, 2), 4), ((1, 1, 2), 4), ((1,), 5), ((1, 1), 5), ((2, 2), 5)]
MOSTS = (None, 1, 2)


class Lasting(Case):
    def test_they_are_the_greatest_closed_set(self):
        for (pool, people), band, most in product(POOLS, BANDS, MOSTS):
            wanted = lasting_by_taking_away(pool, people, band, most)
            self.same(lasting_splits(pool, people, band=band, most=most), tuple(wanted))
            wishes = sorted({worths_by_purses(split) for split in wanted})
            self.same(lasting_wishes(pool, people, band=band, most=most), tuple(wishes))
            for split in banded_by_worths(pool, people, band):
                self.assertIs(is_lasting(split, band=band, most=most), split in wanted)

    def test_every_wish_within_the_band_or_none(self):
        for (pool, people), band in product(POOLS, BANDS):
            wishes = [wish for wish in wishes_by_bars(sum(pool), people) if is_in_band(wish, band)]
            self.assertIn(list(lasting_wishes(pool, people, band=band)), ([], wishes))

    def test_they_are_the_same_for_every_most(self):
        for (pool, people), band in product(POOLS, BANDS):
            rows = [lasting_by_taking_away(pool, people, band, most) for most in MOSTS]
            self.assertEqual(rows[0], rows[1])
            self.assertEqual(rows[0], rows[2])

    def test_a_narrower_band_keeps_what_lasts(self):
        for (pool, people), one, other in product(POOLS, BANDS, BANDS):
            low, high = (0, None) if one is None else one
            if other is None or not low <= other[0] or (high is not None and (other[1] is None or other[1] > high)):
                continue
            for split in lasting_splits(pool, people, band=one):
                if is_in_band(worths_by_purses(split), other):
                    self.assertIn(split, lasting_splits(pool, people, band=other))

    def test_one_and_two_people(self):
        for pool, band in product(pools_up_to(4, 4), BANDS):
            self.same(lasting_splits(pool, 1, band=band), tuple(banded_by_worths(pool, 1, band)))
            values = [worth for worth in range(sum(pool) + 1) if is_in_band((worth, sum(pool) - worth), band)]
            sums = {worths_by_purses(split)[0] for split in banded_by_worths(pool, 2, None)}
            banded = banded_by_worths(pool, 2, band)
            self.same(lasting_splits(pool, 2, band=band), tuple(banded if set(values) <= sums else ()))

    def test_without_a_band(self):
        for pool, people in POOLS:
            every = people == 1 or (people == 2 and serves(pool, 2) is None) or (people > 2 and set(pool) <= {1})
            wanted = tuple(banded_by_worths(pool, people, None)) if every else ()
            self.same(lasting_splits(pool, people), wanted)
            self.assertIs(lasts_for(pool, people), every)

    def test_lasts_for_lists_no_splits(self):
        with at_once():
            for people in (3, 4, 5):
                self.assertIs(lasts_for((1,) * 12, people), True)
                self.assertIs(lasts_for((1,) * 11 + (2,), people), False)
            self.assertIs(lasts_for([2 ** at for at in range(12)], 2), True)
            self.assertIs(lasts_for([2 ** at + 1 for at in range(12)], 2), False)
            self.assertIs(lasts_for(tuple(range(COIN - 11, COIN + 1)), 1), True)
            self.assertIs(lasts_for((), 5), True)

    def test_the_example(self):
        self.same(lasting_splits([2, 1, 1], 3, band=[1, None]), (
            ((1,), (1,), (2,)), ((1,), (2,), (1,)), ((2,), (1,), (1,))))
        self.same(lasting_splits([2, 1, 1], 3), ())
        self.same(lasting_wishes([2, 1, 1], 3, band=[1, None]), ((1, 1, 2), (1, 2, 1), (2, 1, 1)))
        self.assertIs(is_lasting([[2], [1], [1]], band=[1, None]), True)
        self.assertIs(is_lasting([[2], [1], [1]]), False)

    def test_bands_that_nothing_is_within(self):
        self.same(lasting_splits((1, 1, 2), 3, band=(2, 3)), ())
        self.same(lasting_wishes((1, 1, 2), 3, band=(0, 1)), ())
        self.same(lasting_splits((5,), 2, band=(1, 4)), ())


class Errors(Case):
    def test_a_split_that_is_not_within_the_band(self):
        def call(split, band, most):
            return is_lasting(split, band=band, most=most)

        self.fails(BadBand, ("worths",), call, ((2,), ()), (1, None), 0)
        self.fails(BadBand, ("worths",), call, ((2,), ()), (0, 1), None)
        self.fails(BadBand, ("high",), call, ((2,), ()), (1, 0), 0)
        self.fails(BadAmount, (), call, ((2,), ()), (0, 2), 0)
        # The band is asked ahead of the number of splits.
        for pool, people in MANY:
            split = (pool,) + ((),) * (people - 1)
            self.fails(BadBand, ("worths",), call, split, (1, None), None)
            self.fails(BadAmount, (), call, split, None, 0)
            self.fails(TooMany, (400,), call, split, None, None)

    def test_four_hundred_splits(self):
        with at_once():
            for pool, people in JUST:
                lasting_splits(pool, people)
                is_lasting((pool,) + ((),) * (people - 1))
                widest_bands(pool, people)
                least_low(pool, people)
        for pool, people in MANY:
            for function in (lasting_splits, lasting_wishes, widest_bands, least_low):
                self.fails(TooMany, (400,), function, pool, people)
            for band in ((0, 0), (COIN, COIN)):
                self.fails(TooMany, (400,), lambda *told: lasting_splits(*told, band=band), pool, people)

    def test_totals_above_a_hundred(self):
        for function in (widest_bands, least_low):
            function((50, 50), 3)
            function((100,), 5)
            self.fails(TooMany, (100,), function, (50, 51), 3)
            self.fails(TooMany, (100,), function, (101,), 1)
            self.fails(TooMany, (100,), function, (COIN,), 2)
            # The splits are asked ahead of the total.
            self.fails(TooMany, (400,), function, (COIN, COIN - 1, 3, 2), 5)


class Widest(Case):
    def test_they_are_the_lasting_bands_that_lie_within_no_other(self):
        for pool, people in POOLS + [((1, 1, 1, 1, 2), 3), ((1, 1, 1, 2, 2), 3), ((1, 2, 2, 3), 2), ((2, 2, 2), 4)]:
            total = sum(pool)
            bands = [
                (low, high) for low in range(total + 1) for high in range(low, total + 1)
                if lasting_by_taking_away(pool, people, (low, high), 1)
            ]
            widest = [
                one for one in bands
                if not any(other != one and other[0] <= one[0] and one[1] <= other[1] for other in bands)
            ]
            self.same(widest_bands(pool, people), tuple(widest))
            self.assertEqual(least_low(pool, people), min((low for low, high in bands if high == total), default=None))
            # A band around some wish within a lasting band is lasting.
            for low, high in product(range(total + 1), repeat=2):
                if any(is_in_band(wish, (low, high)) for wish in wishes_by_bars(total, people)):
                    within = any(one[0] <= low and high <= one[1] for one in bands)
                    self.assertEqual((low, high) in bands, within)

    def test_some_bands(self):
        self.same(widest_bands([2, 1, 1], 3), ((1, 4),))
        self.assertEqual(least_low([2, 1, 1], 3), 1)
        self.same(widest_bands((1,) * 11 + (2,), 3), ((0, 10), (1, 13)))
        self.same(widest_bands((), 3), ((0, 0),))
        self.assertEqual(least_low((), 3), 0)
        self.same(widest_bands((7,), 2), ())
        self.assertIsNone(least_low((7,), 2))
        self.same(widest_bands((7,), 1), ((0, 7),))
        self.same(widest_bands((3, 3), 2), ((0, 3), (3, 6)))
        self.assertEqual(least_low((3, 3), 2), 3)


if __name__ == "__main__":
    unittest.main()
