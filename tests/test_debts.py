"""5.1 and 5.5: debts, and the amounts that can be paid."""

import unittest
from itertools import islice, product

from anyworths.debts import all_debts, check_debt, count_debts, count_unpaid, paid_amounts, unpaid_debts
from anyworths.debts import unpaid_ranges
from anyworths.errors import BadAmount, BadDebt
from tests.roads import Case, at_once, debts_by_worths, pools_up_to, splits_in_order, ways_by_splits

COIN = 10 ** 9
SPLITS = [split for pool in pools_up_to(4, 3) for people in (1, 2, 3) for split in splits_in_order(pool, people)[::2]]
SPLITS += [split for pool in pools_up_to(2, 4) for people in (4, 5) for split in splits_in_order(pool, people)]
GREAT = (tuple(range(COIN - 5, COIN + 1)), tuple(range(COIN - 11, COIN - 5)))
MOSTS = (None, 1, 2, 3, 100)


class Debts(Case):
    def test_check_debt(self):
        split = ((1, 2), (), (4,))
        self.same(check_debt(split, [0, 1, 3]), (0, 1, 3))
        self.same(check_debt([[1, 2], [], [4]], (2, 0, 1)), (2, 0, 1))
        for debt in (None, 5, "011", (), (0, 1), (0, 1, 1, 1), {0: 1, 1: 1, 2: 1}, (True, 1, 1), (0, True, 1),
                     (0, 1, True), (0, 1, None), (0, 1, "1"), ((0,), 1, 1), (0, 1, 1.0)):
            self.fails(BadDebt, ("debt",), check_debt, split, debt)
        for debt in ((0, 0, 1), (3, 0, 1), (0, 3, 1), (-1, 0, 1), (0, -1, 0), (5, 5, 0)):
            self.fails(BadDebt, ("persons",), check_debt, split, debt)
        for debt in ((0, 1, 0), (0, 1, -1), (0, 1, 4), (1, 0, 1), (2, 1, 5), (2, 1, 10 ** 30)):
            self.fails(BadDebt, ("amount",), check_debt, split, debt)
        self.fails(BadDebt, ("persons",), check_debt, ((5,),), (0, 0, 1))

    def test_all_debts_ascending_and_their_number(self):
        for split, most in product(SPLITS, MOSTS):
            wanted = debts_by_worths(split, most)
            self.assertEqual(wanted, sorted(wanted))
            self.assertEqual(list(all_debts(split, most)), wanted)
            self.assertEqual(count_debts(split, most), len(wanted))
        self.assertEqual(list(all_debts([[2], [1]])), [(0, 1, 1), (0, 1, 2), (1, 0, 1)])
        self.assertEqual(list(all_debts([[2], [1]], most=1)), [(0, 1, 1), (1, 0, 1)])
        self.assertEqual(count_debts([[2], [1]], most=1), 2)

    def test_unpaid_debts_and_their_number(self):
        for split, most in product(SPLITS, MOSTS):
            wanted = [debt for debt in debts_by_worths(split, most) if not ways_by_splits(split, debt)]
            self.assertEqual(list(unpaid_debts(split, most)), wanted)
            self.assertEqual(count_unpaid(split, most), len(wanted))
        self.assertEqual(list(unpaid_debts([[2], [3]], most=1)), [(0, 1, 1)])
        self.assertEqual(count_unpaid([[2], [2]], most=1), 2)

    def test_paid_amounts_and_the_ranges_of_the_others(self):
        for split in SPLITS:
            people = len(split)
            for debtor, creditor in product(range(people), repeat=2):
                if debtor == creditor:
                    continue
                amounts = range(1, sum(split[debtor]) + 1)
                paid = [amount for amount in amounts if ways_by_splits(split, (debtor, creditor, amount))]
                self.same(paid_amounts(split, debtor, creditor), tuple(paid))
                ranges = unpaid_ranges(split, debtor, creditor)
                told = [amount for low, high in ranges for amount in range(low, high + 1)]
                self.assertEqual(told, [amount for amount in amounts if amount not in paid])
                self.assertTrue(all(low <= high for low, high in ranges))
                # Each is as long as it can be, so a paid amount parts it from the next one.
                self.assertTrue(all(one[1] + 1 < other[0] for one, other in zip(ranges, ranges[1:])))

    def test_some_amounts(self):
        split = ((2, 5), (1,), ())
        self.same(paid_amounts(split, 0, 1), (1, 2, 4, 5, 6, 7))
        self.same(unpaid_ranges(split, 0, 1), ((3, 3),))
        self.same(paid_amounts([[5, 2], [1], []], 0, 2), (2, 5, 7))
        self.same(unpaid_ranges(split, 0, 2), ((1, 1), (3, 4), (6, 6)))
        self.same(paid_amounts(split, 2, 0), ())
        self.same(unpaid_ranges(split, 2, 0), ())

    def test_wrong_persons(self):
        split = ((2,), (1,), ())
        for function in (paid_amounts, unpaid_ranges):
            for one, other in ((0, 0), (0, 3), (3, 0), (-1, 0), (True, 0), (0, None), ("0", 1), (0, 1.0), ((0,), 1)):
                self.fails(BadDebt, ("persons",), function, split, one, other)

    def test_great_amounts_are_answered_at_once(self):
        with at_once():
            whole = sum(GREAT[0])
            self.assertEqual(count_debts(GREAT), sum(GREAT[0]) + sum(GREAT[1]))
            self.assertEqual(count_debts(GREAT, 12 * COIN), sum(GREAT[0]) + sum(GREAT[1]))
            self.assertEqual(list(islice(all_debts(GREAT), 2)), [(0, 1, 1), (0, 1, 2)])
            paid = paid_amounts(GREAT, 0, 1)
            self.assertEqual(paid[-1], whole)
            unpaid = sum(high - low + 1 for low, high in unpaid_ranges(GREAT, 0, 1))
            self.assertEqual(len(paid) + unpaid, whole)
            self.assertEqual(count_unpaid(GREAT), sum(
                high - low + 1 for pair in ((0, 1), (1, 0)) for low, high in unpaid_ranges(GREAT, *pair)
            ))
            self.assertEqual(count_unpaid(GREAT, COIN // 2), sum(
                min(high, COIN // 2) - low + 1 for pair in ((0, 1), (1, 0))
                for low, high in unpaid_ranges(GREAT, *pair) if low <= COIN // 2
            ))
            split = ((), (COIN,) * 12)
            self.assertEqual(next(unpaid_debts(split)), (1, 0, 1))
            self.assertEqual(count_unpaid(split), 12 * (COIN - 1))
            self.assertEqual(count_unpaid(split, 12 * COIN), 12 * (COIN - 1))

    def test_the_greatest_amount_told(self):
        for function in (all_debts, count_debts, unpaid_debts, count_unpaid):
            for most in (0, -1, True, "1", 12 * COIN + 1, 1.0):
                self.fails(BadAmount, (), function, ((1,), (2,)), most)


if __name__ == "__main__":
    unittest.main()
