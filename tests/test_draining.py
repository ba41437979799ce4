"""6.12: debts that drain a person with a coin above 1 of ones."""

import unittest
from itertools import permutations, product

from anyworths.draining import drain_bound, draining_debts
from anyworths.errors import BadPeople, BadPerson
from tests.roads import Case, pools_up_to, ranks_by_counting_up, splits_in_order, ways_by_splits

COIN = 10 ** 9
SPLITS = [split for pool in pools_up_to(4, 3) for split in splits_in_order(pool, 3)]
SPLITS += [split for pool in pools_up_to(2, 2) for people in (4, 5) for split in splits_in_order(pool, people)]


class Draining(Case):
    def test_each_debt_has_one_way_and_the_last_has_none(self):
        for split in SPLITS:
            for holder, emptied, helper in permutations(range(len(split)), 3):
                row = draining_debts(split, holder, emptied, helper)
                if max(split[holder], default=0) <= 1:
                    self.assertIsNone(row)
                    continue
                now = split
                for debt in row[:-1]:
                    ways = ways_by_splits(now, debt)
                    self.assertEqual(len(ways), 1)
                    now = ways[0]
                self.assertEqual(row[-1], (holder, emptied, 1))
                self.assertEqual(ways_by_splits(now, row[-1]), [])
                self.assertEqual(now[emptied], ())
                self.assertNotIn(1, now[holder])

    def test_the_row(self):
        self.same(draining_debts([[2], [1], [1]], 0, 1, 2), ((1, 2, 1), (0, 1, 1)))
        self.same(draining_debts([[2], [], [1]], 0, 1, 2), ((0, 1, 1),))
        self.same(draining_debts([[1, 3, 1], [4], []], 0, 2, 1), (
            (0, 2, 1), (2, 1, 1), (0, 2, 1), (2, 1, 1), (0, 2, 1)))
        self.same(draining_debts([[1, 3], [4], [5]], 1, 0, 2), ((0, 2, 4), (1, 0, 1)))
        many = draining_debts(((1,) * 9 + (2,), (1,), (1,)), 0, 1, 2)
        self.same(many, ((1, 2, 1),) + ((0, 1, 1), (1, 2, 1)) * 9 + ((0, 1, 1),))
        self.assertIsNone(draining_debts(((1,) * 4, (7,), ()), 0, 1, 2))
        self.assertIsNone(draining_debts(((), (7,), ()), 0, 1, 2))
        self.same(draining_debts(((COIN,), (COIN,) * 11, ()), 0, 1, 2), ((1, 2, 11 * COIN), (0, 1, 1)))

    def test_fewer_than_three_purses(self):
        for split in (((2,),), ((2,), (1,))):
            self.fails(BadPeople, (), draining_debts, split, None, None, None)

    def test_wrong_persons(self):
        for persons in ((0, 1, 1), (0, 0, 1), (1, 0, 1), (0, 1, 3), (3, 1, 0), (0, -1, 1), (False, 1, 2), (0, True, 2),
                        (0, 1, None), ("0", 1, 2), (0, 1, 2.0), ((0,), 1, 2), ([0], 1, 2), (2, 2, 2)):
            self.fails(BadPerson, (), draining_debts, ((2,), (1,), (1,)), *persons)

    def test_the_bound(self):
        for split in SPLITS:
            rows = [draining_debts(split, *persons) for persons in permutations(range(len(split)), 3)]
            wanted = min([len(row) - 1 for row in rows if row is not None], default=None)
            self.assertEqual(drain_bound(split), wanted)
        self.assertEqual(drain_bound([[2], [1], [1]]), 1)
        self.assertEqual(drain_bound([[2], [], [1]]), 0)
        self.assertEqual(drain_bound([[1, 1, 2], [1], [1]]), 5)
        for split in (((2,),), ((2,), (3,)), ((1,), (1,), (1,)), ((), (), ())):
            self.assertIsNone(drain_bound(split))

    def test_no_rank_is_above_the_bound(self):
        for pool, people in product(pools_up_to(4, 3), (3,)):
            ranks = ranks_by_counting_up(pool, people, None, None)
            for split in splits_in_order(pool, people):
                bound = drain_bound(split)
                self.assertEqual(bound is None, split not in ranks)
                if bound is not None:
                    self.assertLessEqual(ranks[split], bound)


if __name__ == "__main__":
    unittest.main()
