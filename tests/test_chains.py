"""5.13 and 5.14: chains."""

import unittest
from itertools import permutations

from anyworths.chains import Chain, chain_fault, chain_of
from anyworths.errors import TooMany
from anyworths.payments import ways_of
from tests.roads import Case, at_once, debts_by_worths, plays_by_search, pools_up_to, splits_in_order
from tests.test_debtrows import MANY_ROWS, SPLIT

COIN = 10 ** 9


def all_chains(people, debt):
    """All chains of a debt in their order, by all rows of persons."""
    debtor, creditor, _ = debt
    rows = [row for many in range(2, people + 1) for row in permutations(range(people), many)]
    return [row for row in rows if row[0] == debtor and row[-1] == creditor]


def row_of(chain, debt):
    return tuple((one, other, debt[2]) for one, other in zip(chain, chain[1:]))


def cases():
    for pool in pools_up_to(3, 3):
        for people in (1, 2, 3, 4):
            for split in splits_in_order(pool, people)[::1 if people < 4 else 3]:
                for debt in debts_by_worths(split):
                    yield split, debt
    for pool in ((2,), (1, 2), (1, 3), (2, 2), (1, 1, 2)):
        for split in splits_in_order(pool, 5)[::4]:
            for debt in debts_by_worths(split):
                yield split, debt


class Chains(Case):
    def test_the_first_chain_that_has_a_play(self):
        for split, debt in cases():
            rows = all_chains(len(split), debt)
            good = [row for row in rows if plays_by_search(split, row_of(row, debt))]
            told = chain_of(split, debt)
            if not good:
                self.assertIsNone(told)
                continue
            self.assertIsInstance(told, Chain)
            self.same(told.persons, good[0])
            self.assertIn(told.splits, plays_by_search(split, row_of(good[0], debt)))
            self.assertIsNone(chain_fault(split, debt, told))

    def test_the_judge_takes_just_the_first(self):
        for split, debt in list(cases())[::5]:
            rows = all_chains(len(split), debt)
            good = [row for row in rows if plays_by_search(split, row_of(row, debt))]
            for row in good:
                for play in plays_by_search(split, row_of(row, debt)):
                    told = Chain(row, [[list(purse)[::-1] for purse in purses] for purses in play])
                    self.assertEqual(chain_fault(split, debt, told), None if row == good[0] else "first")

    def test_the_example(self):
        split = ((2,), (), (1, 1))
        self.same(chain_of(split, [0, 1, 1]), Chain((0, 2, 1), (split, ((1,), (), (1, 2)), ((1,), (1,), (2,)))))
        self.same(chain_of(SPLIT, (0, 1, 1)), Chain((0, 1), (SPLIT, ((1,), (2,), (1,)))))
        self.assertIsNone(chain_of(((2,), (), (2,)), (0, 1, 1)))
        self.assertIsNone(chain_of(((2,), ()), (0, 1, 1)))

    def test_four_and_five_persons_in_a_chain(self):
        for split, amount, persons in (
            (((3, 4), (), (1, 1, 4), (2, 5)), 1, (0, 3, 2, 1)),
            (((4,), (1, 4), (1, 3), (1, 2)), 2, (0, 3, 2, 1)),
            (((5,), (), (3, 5), (2, 4), (1, 4)), 3, (0, 3, 4, 2, 1)),
            (((5,), (), (1, 3), (3, 4), (1, 2)), 2, (0, 2, 3, 4, 1)),
        ):
            told = chain_of(split, (0, 1, amount))
            self.same(told.persons, persons)
            self.assertIsNone(chain_fault(split, (0, 1, amount), told))
            for at in range(len(persons) - 1):
                debt = (persons[at], persons[at + 1], amount)
                self.assertIn(told.splits[at + 1], list(ways_of(told.splits[at], debt)))

    def test_the_words(self):
        split = ((2,), (), (1, 1))
        right = chain_of(split, (0, 1, 1))
        self.assertIsNone(chain_fault(split, (0, 1, 1), Chain((0, 2, 1), list(right.splits))))
        for persons in (None, 1, (), (0,), (0, 2), (2, 1), [0, 2, 1], (0, 0, 1), (0, 2, 2, 1), (0, 3, 1), (False, 1),
                        (0, True), (0, 2, True), (1, 2, 0), "021", (0, 2, 1, 1), (0, None, 1), ((0,), 1), ([0], [1])):
            self.assertEqual(chain_fault(split, (0, 1, 1), Chain(persons, right.splits)), "persons")
        for splits in (None, (), right.splits[:2], right.splits + right.splits[:1], (split, split, split),
                       right.splits[::-1], right.splits[:2] + (None,)):
            self.assertEqual(chain_fault(split, (0, 1, 1), Chain((0, 2, 1), splits)), "splits")
        self.assertEqual(chain_fault(split, (0, 1, 1), Chain((0, 1), right.splits)), "splits")
        longer = Chain((0, 2, 1), plays_by_search(SPLIT, ((0, 2, 1), (2, 1, 1)))[0])
        self.assertEqual(chain_fault(SPLIT, (0, 1, 1), longer), "first")

    def test_too_many_before_a_play_is_found(self):
        # Nothing odd can be paid with even coins alone, and by the third person there are too many splits.
        evens, odds = (2, 4, 6, 8, 10, 12), (1, 3, 5, 7, 9, 11)
        # Of the first two some layer has 408 splits.
        for purses, amount in (
            ((evens, (), (1, 3, 5, 7, 9, 13)), 19), (((2, 4, 6, 8, 10, 14), (), odds), 17), ((evens, (), odds), 17),
            ((evens, (), odds), 19), ((evens, (), odds), 21),
        ):
            debt = (0, 1, amount)
            self.fails(TooMany, (400,), chain_of, purses, debt)
            split = purses + ((),)
            self.fails(TooMany, (400,), chain_of, split, debt)
            splits = [split]
            for one, other in ((0, 2), (2, 3), (3, 1)):
                splits.append(next(ways_of(splits[-1], (one, other, amount))))
            self.fails(TooMany, (400,), chain_fault, split, debt, Chain((0, 2, 3, 1), splits))
            self.assertEqual(chain_fault(split, debt, Chain((0, 2, 3, 1), splits[::-1])), "splits")

    def test_just_four_hundred_splits(self):
        split, debt = ((2, 4, 8, 10, 12, 14), (), (1, 3, 5, 7, 9, 13)), (0, 1, 23)
        layer = {after for way in ways_of(split, (0, 2, 23)) for after in ways_of(way, (2, 1, 23))}
        self.assertEqual(len(layer), 400)
        told = chain_of(split, debt)
        self.same(told.persons, (0, 2, 1))
        self.assertIsNone(chain_fault(split, debt, told))

    def test_no_more_chains_are_asked_than_are_needed(self):
        for split, debts in MANY_ROWS:
            told = chain_of(split, debts[0])
            self.same(told.persons, (0, 1))
            self.assertIsNone(chain_fault(split, debts[0], told))
            way = next(ways_of(split, (0, 2, debts[0][2])))
            longer = (split, way, next(ways_of(way, (2, 1, debts[0][2]))))
            self.assertEqual(chain_fault(split, debts[0], Chain((0, 2, 1), longer)), "first")

    def test_great_coins_are_answered_at_once(self):
        with at_once():
            split = ((COIN - 1, COIN), (COIN,), (COIN,) * 3, (COIN - 1,) * 3, (COIN,) * 3)
            self.assertIsNone(chain_of(split, (0, 1, 2)))
            told = chain_of(split, (0, 1, COIN))
            self.assertEqual(told.persons, (0, 1))


if __name__ == "__main__":
    unittest.main()
