"""6.8 and 6.9: how long the splits that do not last can be kept up."""

import unittest
from itertools import product

from anyworths.errors import BadAmount, BadBand, TooMany
from anyworths.lasting import lasting_splits
from anyworths.ranks import rank_of, ranks_fault, ranks_of
from tests.roads import Case, asked_by_words, at_once, banded_by_worths, pools_up_to, ranks_by_counting_up
from tests.roads import ways_by_splits
from tests.test_bands import BANDS, JUST, MANY
from tests.test_lasting import MOSTS

COIN = 10 ** 9
POOLS = [(pool, people) for pool in pools_up_to(3, 3) for people in (1, 2, 3) if len(pool) < 3 or people > 1][::2]
POOLS += [((1, 1, 1, 2), 2), ((1, 1, 1, 2), 3), ((1, 1, 2, 2), 2), ((1, 1, 1, 1, 2), 3), ((1, 3, 3), 2)]
POOLS += [((1, 1), 4), ((1, 1, 2), 4), ((1, 1), 5), ((1, 2), 5)]


def wanted_ranks(pool, people, band, most):
    ranks = ranks_by_counting_up(pool, people, band, most)
    return tuple(ranks.get(split) for split in banded_by_worths(pool, people, band))


class Ranks(Case):
    def test_they_are_found_by_counting_up(self):
        greatest = 0
        for (pool, people), band, most in product(POOLS, BANDS, MOSTS):
            wanted = wanted_ranks(pool, people, band, most)
            self.same(ranks_of(pool, people, band=band, most=most), wanted)
            for split, rank in zip(banded_by_worths(pool, people, band), wanted):
                if len(split) < 4:
                    self.assertEqual(rank_of(split, band=band, most=most), rank)
            greatest = max([greatest] + [rank for rank in wanted if rank is not None])
        self.assertGreater(greatest, 2)

    def test_just_the_lasting_ones_have_none(self):
        for (pool, people), band, most in product(POOLS, BANDS, MOSTS):
            splits = banded_by_worths(pool, people, band)
            ranks = ranks_of(pool, people, band=band, most=most)
            lasting = tuple(split for split, rank in zip(splits, ranks) if rank is None)
            self.assertEqual(lasting_splits(pool, people, band=band, most=most), lasting)

    def test_the_example(self):
        self.assertEqual(rank_of(((2,), (), (1, 1))), 0)
        self.assertEqual(rank_of([[2], [1], [1]]), 1)
        self.assertIsNone(rank_of([[2], [1], [1]], band=[1, None]))
        self.same(ranks_of((1, 1, 2), 3, band=(1, None)), (None, None, None))
        self.same(ranks_of((), 3), (None,))
        self.same(ranks_of((1, 1, 2), 3, band=(2, 3)), ())

    def test_great_amounts_are_answered_at_once(self):
        with at_once():
            self.same(ranks_of((COIN,), 2), (0, 0))
            self.assertEqual(rank_of(((COIN,) * 6, (COIN,) * 6)), 0)
            self.assertEqual(set(ranks_of((COIN - 1, COIN), 3, most=COIN)), {0})
            self.assertEqual(rank_of(((COIN,), (COIN,)), band=(COIN, COIN)), None)
            for pool, people in JUST:
                self.assertEqual(len(ranks_of(pool, people)), 400)
                self.assertEqual(len(ranks_of(pool, people, most=1)), 400)

    def test_the_errors_in_their_order(self):
        def rank(split, band, most):
            return rank_of(split, band=band, most=most)

        def ranks(pool, people, band, most):
            return ranks_of(pool, people, band=band, most=most)

        def fault(pool, people, band, most):
            return ranks_fault(pool, people, None, band=band, most=most)

        self.fails(BadBand, ("worths",), rank, ((2,), ()), (1, None), 0)
        self.fails(BadBand, ("high",), rank, ((2,), ()), (1, 0), 0)
        self.fails(BadAmount, (), rank, ((2,), ()), (0, 2), 0)
        for pool, people in MANY:
            split = (pool,) + ((),) * (people - 1)
            self.fails(BadBand, ("worths",), rank, split, (1, None), None)
            self.fails(TooMany, (400,), rank, split, None, None)
            for function in (ranks, fault):
                self.fails(BadAmount, (), function, pool, people, None, 0)
                self.fails(TooMany, (400,), function, pool, people, None, None)
                self.fails(TooMany, (400,), function, pool, people, (0, 0), 1)


class Judged(Case):
    def word_by_words(self, pool, people, band, most, ranks):
        """The word of the first item at fault, by the words of the document."""
        splits = banded_by_worths(pool, people, band)
        known = dict(zip(splits, ranks))
        for split, rank in known.items():
            rows = [[known[way] for way in ways_by_splits(split, debt)] for debt in asked_by_words(split, band, most)]
            if rank is None:
                if any(None not in row for row in rows):
                    return "lasting"
                continue
            if not any(all(other is not None and other < rank for other in row) for row in rows):
                return "breaking"
            if rank >= 1 and any(all(other is not None and other < rank - 1 for other in row) for row in rows):
                return "holding"
        return None

    def test_just_the_ranks_have_no_fault(self):
        words = set()
        for (pool, people), band, most in product([((1, 2), 2), ((1, 1, 2), 2), ((2,), 3), ((1, 3), 2), ((1,), 3)],
                                                  BANDS[:7:2], (None, 1)):
            wanted = wanted_ranks(pool, people, band, most)
            if len(wanted) > 6:
                continue
            for ranks in product((None, 0, 1, 2), repeat=len(wanted)):
                word = ranks_fault(pool, people, list(ranks), band=band, most=most)
                self.assertEqual(word, self.word_by_words(pool, people, band, most, ranks))
                self.assertEqual(word is None, ranks == wanted)
                words.add(word)
        self.assertEqual(words, {None, "lasting", "breaking", "holding"})

    def test_one_item_changed(self):
        for pool, people in (((1, 1, 2), 3), ((1, 1, 1, 2), 3), ((1, 1, 1, 1, 2), 3)):
            for most in (None, 1):
                right = wanted_ranks(pool, people, None, most)
                self.assertIsNone(ranks_fault(pool, people, right, most=most))
                for at in range(len(right)):
                    for other in (None, 0, 1, 2, 3, 50):
                        ranks = right[:at] + (other,) + right[at + 1:]
                        word = ranks_fault(pool, people, ranks, most=most)
                        self.assertEqual(word, self.word_by_words(pool, people, None, most, ranks))
                        self.assertEqual(word is None, ranks == right)

    def test_what_is_no_row_of_ranks(self):
        right = ranks_of((1, 2), 2)
        self.same(right, (None,) * 4)
        self.assertIsNone(ranks_fault((1, 2), 2, list(right)))
        for ranks in (None, 0, "0000", (), right[1:], right + (None,), {0: 1}, (None, None, None, True),
                      (-1, None, None, None), (None, "1", None, None), (None, 1.0, None, None), ((),) * 4):
            self.assertEqual(ranks_fault((1, 2), 2, ranks), "ranks")
        self.assertEqual(ranks_fault((1, 2), 2, (0, 0, 0, 0)), "breaking")
        self.assertIsNone(ranks_fault((5,), 2, (), band=(1, 4)))
        self.assertEqual(ranks_fault((5,), 2, (0,), band=(1, 4)), "ranks")

    def test_great_amounts_are_answered_at_once(self):
        with at_once():
            self.assertIsNone(ranks_fault((COIN,), 2, (0, 0)))
            self.assertEqual(ranks_fault((COIN,), 2, (0, None)), "lasting")
            self.assertEqual(ranks_fault((COIN,), 2, (1, 0)), "holding")


if __name__ == "__main__":
    unittest.main()
