"""6.10 and 6.11: debts that break what does not last, and choosers that hold it up the longest."""

import random
import unittest
from itertools import product

from anyworths.breaking import Collapse, breaking_debt, longest_chooser, longest_way, play_breaking
from anyworths.errors import BadAmount, BadBand, BadChoice, BadDebt, TooMany
from anyworths.playing import choose_evenest, choose_first, choose_most_ones
from tests.roads import Case, asked_by_words, at_once, banded_by_worths, debts_by_worths, has_list
from tests.roads import ranks_by_counting_up, ways_by_splits
from tests.test_bands import BANDS, JUST, MANY
from tests.test_lasting import MOSTS
from tests.test_ranks import POOLS

COIN = 10 ** 9
SMALL = [(pool, people) for pool, people in POOLS if len(pool) <= 3 and people <= 3] + [((1, 1, 1, 2), 3), ((1, 2), 4)]
SPLIT = ((2,), (1,), (1,))


def breaking_by_words(split, ranks, band, most):
    """The first asked debt all of whose ways have lesser ranks than the split, or None."""
    if split not in ranks:
        return None
    for debt in asked_by_words(split, band, most):
        if all(way in ranks and ranks[way] < ranks[split] for way in ways_by_splits(split, debt)):
            return debt
    raise AssertionError(split)


def longest_by_words(split, debt, ranks):
    """The first way that has no rank, or else the first of the greatest rank, or None."""
    ways = ways_by_splits(split, debt)
    for way in ways:
        if way not in ranks:
            return way
    best = max([ranks[way] for way in ways], default=None)
    return next((way for way in ways if ranks[way] == best), None)


class Debts(Case):
    def test_the_breaking_debt_leads_to_lesser_ranks_alone(self):
        for (pool, people), band, most in product(SMALL, BANDS, MOSTS):
            ranks = ranks_by_counting_up(pool, people, band, most)
            for split in banded_by_worths(pool, people, band)[::1 if people < 3 else 3]:
                wanted = breaking_by_words(split, ranks, band, most)
                self.assertEqual(breaking_debt(split, band=band, most=most), wanted)

    def test_the_longest_way(self):
        found = {None: 0, "lasting": 0, "ranked": 0, "other": 0}
        for (pool, people), band, most in product(SMALL, BANDS, MOSTS):
            ranks = ranks_by_counting_up(pool, people, band, most)
            for split in banded_by_worths(pool, people, band)[::2 if people < 3 else 7]:
                for debt in asked_by_words(split, band, most):
                    told = longest_way(split, debt, band=band, most=most)
                    wanted = longest_by_words(split, debt, ranks)
                    self.assertEqual(told, wanted)
                    found[None if told is None else "ranked" if told in ranks else "lasting"] += 1
                    found["other"] += told is not None and told != ways_by_splits(split, debt)[0]
                for debt in debts_by_worths(split):
                    if debt not in asked_by_words(split, band, most):
                        self.fails(BadBand, ("debt",), lambda *told: longest_way(*told, band=band, most=most),
                                   split, debt)
        self.assertTrue(all(found.values()), found)

    def test_the_example(self):
        self.same(breaking_debt(((2,), (), (1, 1))), (0, 1, 1))
        self.same(breaking_debt([[2], [1], [1]]), (1, 2, 1))
        self.assertIsNone(breaking_debt([[2], [1], [1]], band=[1, None]))
        self.same(longest_way([[2], [1], [1]], [1, 2, 1]), ((2,), (), (1, 1)))
        self.assertIsNone(longest_way([[2], [], [1, 1]], [0, 1, 1]))

    def test_great_amounts_are_answered_at_once(self):
        with at_once():
            self.same(breaking_debt(((COIN,), ())), (0, 1, 1))
            self.assertIsNone(longest_way(((COIN,), ()), (0, 1, COIN - 1)))
            self.same(longest_way(((COIN,), ()), (0, 1, COIN)), ((), (COIN,)))
            self.same(play_breaking(((COIN,), ()), choose_first), Collapse(((0, 1, 1),), (((COIN,), ()),)))
            self.same(longest_chooser((COIN,), 2)(((COIN,), ()), (0, 1, COIN), (((), (COIN,)),)), ((), (COIN,)))


class Choosers(Case):
    def test_they_return_the_longest_way_and_else_the_first(self):
        others = 0
        for (pool, people), band, most in product(SMALL + [((1, 1, 1, 2, 2), 3)], BANDS[:5], (None, 1)):
            ranks = ranks_by_counting_up(pool, people, band, most)
            choose = longest_chooser(list(pool)[::-1], people, band=band, most=most)
            splits = banded_by_worths(pool, people, None)
            for split in splits[::1 if len(splits) < 60 else 7]:
                for debt in debts_by_worths(split):
                    ways = tuple(ways_by_splits(split, debt))
                    if not ways:
                        continue
                    asked = split in banded_by_worths(pool, people, band) and debt in asked_by_words(split, band, most)
                    wanted = longest_by_words(split, debt, ranks) if asked else ways[0]
                    self.same(choose(split, debt, ways), wanted)
                    others += wanted != ways[0]
        self.assertGreater(others, 0)

    def test_of_another_pool_it_is_the_first_way(self):
        choose = longest_chooser((1, 1, 2), 3)
        split = ((1, 2, 3), ())
        ways = tuple(ways_by_splits(split, (0, 1, 3)))
        self.assertEqual(len(ways), 2)
        self.same(choose(split, (0, 1, 3), ways), ways[0])


class Plays(Case):
    def check(self, split, told, rank, choose, band, most):
        """A Collapse is what the rules make of the chooser."""
        ranks = ranks_by_counting_up(tuple(sorted(sum(split, ()))), len(split), band, most)
        self.assertEqual(len(told.debts), len(told.splits))
        self.assertLessEqual(len(told.debts), rank + 1)
        self.assertEqual(told.splits[0], split)
        for now, debt, after in zip(told.splits, told.debts, told.splits[1:] + (None,)):
            self.assertEqual(debt, breaking_by_words(now, ranks, band, most))
            ways = ways_by_splits(now, debt)
            self.assertEqual(after, choose(now, debt, tuple(ways)) if ways else None)
        self.assertFalse(has_list(told))

    def test_at_most_rank_and_one_debts_are_asked(self):
        for (pool, people), band, most in product(SMALL, BANDS[:6], (None, 1)):
            ranks = ranks_by_counting_up(pool, people, band, most)
            choosers = [choose_first, choose_evenest, choose_most_ones, lambda split, debt, ways: ways[-1]]
            for split in banded_by_worths(pool, people, band)[::1 if people < 3 else 4]:
                for choose in choosers:
                    told = play_breaking(split, choose, band=band, most=most)
                    if split not in ranks:
                        self.assertIsNone(told)
                    else:
                        self.check(split, told, ranks[split], choose, band, most)

    def test_just_as_many_with_the_longest_chooser(self):
        for pool, people, band, most in [
            ((1, 1, 1, 1, 2), 3, None, None), ((1, 1, 1, 1, 2), 3, None, 1), ((1, 1, 1, 2, 2), 3, None, 1),
            ((1, 1, 1, 2), 3, (0, 4), None), ((1, 2, 3), 3, None, None), ((1, 1, 3), 2, None, None),
        ]:
            choose = longest_chooser(pool, people, band=band, most=most)
            ranks = ranks_by_counting_up(pool, people, band, most)
            for split in banded_by_worths(pool, people, band)[::5]:
                if split in ranks:
                    told = play_breaking(split, choose, band=band, most=most)
                    self.assertEqual(len(told.debts), ranks[split] + 1)
                    self.check(split, told, ranks[split], choose, band, most)

    def test_the_example(self):
        after = ((2,), (), (1, 1))
        self.same(play_breaking([[2], [1], [1]], choose_first), Collapse(((1, 2, 1), (0, 1, 1)), (SPLIT, after)))
        self.same(play_breaking(after, None), Collapse(((0, 1, 1),), (after,)))
        self.assertIsNone(play_breaking([[2], [1], [1]], None, band=[1, None]))
        self.assertIsNone(play_breaking(((), ()), None))

    def test_the_chooser_is_asked_with_tuples_once_for_each_debt_that_has_a_way(self):
        asked = []

        def choose(*told):
            asked.append(told)
            return [list(purse)[::-1] for purse in told[2][0]]

        chance = random.Random(3)
        for split in chance.sample(banded_by_worths((1, 1, 1, 1, 2), 3, None), 20):
            asked.clear()
            told = play_breaking([list(purse) for purse in split], choose, most=1)
            wanted = [(now, debt, tuple(ways_by_splits(now, debt))) for now, debt in zip(told.splits, told.debts)]
            self.assertEqual(asked, [row for row in wanted if row[2]])
            self.assertFalse(has_list(tuple(asked)))

    def test_wrong_choices(self):
        split = ((1, 1, 2), (), ())
        length = len(play_breaking(split, choose_first, most=1).debts)
        self.assertGreater(length, 2)
        for thing in (None, True, 0, split, ((1, 2), (1,)), ((True, 2), (1,), ()), "", ((1, 1), (1,), (1,)), (5,)):
            for place in range(length - 1):
                turns = []

                def choose(now, debt, ways):
                    turns.append(now)
                    return thing if len(turns) == place + 1 else ways[0]

                self.fails(BadChoice, (place,), lambda *told: play_breaking(*told, most=1), split, choose)

    def test_what_a_chooser_raises_is_raised(self):
        def choose(split, debt, ways):
            raise BadAmount()

        self.fails(BadAmount, (), play_breaking, SPLIT, choose)


class Errors(Case):
    def test_their_order(self):
        def way(split, debt, band, most):
            return longest_way(split, debt, band=band, most=most)

        def debt(split, band, most):
            return breaking_debt(split, band=band, most=most)

        def play(split, band, most):
            return play_breaking(split, None, band=band, most=most)

        def chooser(pool, people, band, most):
            return longest_chooser(pool, people, band=band, most=most)

        for function in (debt, play, lambda split, *told: way(split, (0, 1, 1), *told)):
            self.fails(BadBand, ("high",), function, ((2,), ()), (1, 0), 0)
            self.fails(BadBand, ("worths",), function, ((2,), ()), (1, None), 0)
            self.fails(BadAmount, (), function, ((2,), ()), (0, 2), 0)
            for pool, people in MANY:
                split = (pool,) + ((),) * (people - 1)
                self.fails(BadBand, ("worths",), function, split, (1, None), None)
                self.fails(TooMany, (400,), function, split, None, 1)
        self.fails(BadDebt, ("amount",), way, ((2,), ()), (0, 1, 3), 0, 0)
        self.fails(BadBand, ("debt",), way, ((2,), ()), (0, 1, 2), None, 1)
        for pool, people in MANY:
            split = (pool,) + ((),) * (people - 1)
            # That the debt is not asked comes last.
            self.fails(TooMany, (400,), way, split, (0, 1, 2), None, 1)
            self.fails(BadAmount, (), chooser, pool, people, (0, 0), 0)
            self.fails(TooMany, (400,), chooser, pool, people, (0, 0), 1)

    def test_four_hundred_splits(self):
        with at_once():
            for pool, people in JUST:
                split = (pool,) + ((),) * (people - 1)
                breaking_debt(split)
                longest_chooser(pool, people)
                play_breaking(split, choose_first)
                longest_way(split, (0, 1, 1))


if __name__ == "__main__":
    unittest.main()
