"""5.2 to 5.4: ways of paying a debt, and payments."""

import unittest
from itertools import product

from anyworths.errors import BadPayment, BadPool, BadWay
from anyworths.payments import Payment, after_payment, can_pay, count_ways, exact_payment, first_way, payment_of
from anyworths.payments import way_fault, ways_of
from tests.roads import Case, at_once, debts_by_worths, lots_in_order, pool_by_purses, pools_up_to
from tests.roads import rest_by_counts, splits_in_order, ways_by_splits, worths_by_purses

COIN = 10 ** 9
SPLITS = [split for pool in pools_up_to(4, 3) for people in (1, 2) for split in splits_in_order(pool, people)]
SPLITS += [split for pool in pools_up_to(4, 3) for split in splits_in_order(pool, 3)[::5]]
SPLITS += [split for pool in pools_up_to(2, 4) for people in (4, 5) for split in splits_in_order(pool, people)]
CASES = [(split, debt) for split in SPLITS for debt in debts_by_worths(split)]
SPLIT = ((2,), (1,), (1,))


def turned(split):
    return [list(purse)[::-1] for purse in split]


class Ways(Case):
    def test_all_ways_in_the_order_of_the_creditors_purse(self):
        for split, debt in CASES:
            wanted = ways_by_splits(split, debt)
            self.assertEqual(list(ways_of(split, debt)), wanted)
            self.assertEqual(count_ways(split, debt), len(wanted))
            self.assertIs(can_pay(split, debt), len(wanted) > 0)
            self.assertEqual(first_way(split, debt), wanted[0] if wanted else None)

    def test_a_way_exists_exactly_if_both_purses_have_the_lot(self):
        for split, debt in CASES:
            debtor, creditor, amount = debt
            both = tuple(sorted(split[debtor] + split[creditor]))
            wanted = sum(split[creditor]) + amount
            self.assertEqual(can_pay(split, debt), any(sum(lot) == wanted for lot in lots_in_order(both)))

    def test_a_way_back(self):
        for split, debt in CASES:
            debtor, creditor, amount = debt
            for way in ways_by_splits(split, debt):
                self.assertIn(split, list(ways_of(way, (creditor, debtor, amount))))

    def test_the_example(self):
        self.assertEqual(list(ways_of(SPLIT, (0, 1, 1))), [((1,), (2,), (1,))])
        self.same(first_way(SPLIT, (1, 2, 1)), ((2,), (), (1, 1)))
        self.same(payment_of(SPLIT, (0, 1, 1), ((1,), (2,), (1,))), Payment((2,), (1,)))
        self.assertIsNone(first_way(((2,), (), (1, 1)), (0, 1, 1)))

    def test_many_ways(self):
        split = ((1, 2, 3, 4), (5,))
        self.assertEqual([way[1] for way in ways_of(split, (0, 1, 5))], [(1, 4, 5), (2, 3, 5), (1, 2, 3, 4)])
        with at_once():
            great = (tuple(range(COIN - 11, COIN + 1)), ())
            self.assertEqual(count_ways(great, (0, 1, 6 * COIN - 33)), 58)
            self.assertIs(can_pay(great, (0, 1, 1)), False)
            self.assertIsNone(first_way(great, (0, 1, COIN + 1)))
            self.same(first_way(great, (0, 1, COIN)), (great[0][:11], (COIN,)))


class Judged(Case):
    def test_each_word(self):
        split, debt = ((2,), (1,), (1, 3)), (0, 1, 1)
        right = ((1,), (2,), (1, 3))
        self.assertIsNone(way_fault(split, debt, right))
        self.assertIsNone(way_fault(split, debt, [[1], [2], [3, 1]]))
        for paid in (None, 5, "", (), ((1,), (2,), (0,)), ((1,), (2,), (True, 3)), ((1,),) * 6, ((1,) * 7, (1,) * 6)):
            self.assertEqual(way_fault(split, debt, paid), "purses")
        for paid in (((1,), (2,)), ((1,), (2,), (1, 3), ()), ((),)):
            self.assertEqual(way_fault(split, debt, paid), "people")
        for paid in (((1,), (2,), (1, 2)), ((), (2,), (1, 3)), ((1,), (2,), (1, 1, 3)), ((), (), ())):
            self.assertEqual(way_fault(split, debt, paid), "pool")
        self.assertEqual(way_fault(split, debt, ((1,), (1, 2), (3,))), "others")
        self.assertEqual(way_fault(((2,), (1,), (1,), ()), debt, ((1,), (2,), (), (1,))), "others")
        for paid in (split, ((), (1, 2), (1, 3)), ((1, 2), (), (1, 3))):
            self.assertEqual(way_fault(split, debt, paid), "worths")

    def test_just_the_ways_have_no_fault(self):
        for split, debt in CASES:
            if len(split) > 3 or len(pool_by_purses(split)) > 3:
                continue
            ways = ways_by_splits(split, debt)
            for other in splits_in_order(pool_by_purses(split), len(split)):
                word = way_fault(split, debt, turned(other))
                self.assertEqual(word is None, other in ways)
                if other not in ways:
                    self.fails(BadWay, (word,), payment_of, split, debt, other)
            self.fails(BadWay, ("people",), payment_of, split, debt, split + ((),))
            self.fails(BadWay, ("purses",), payment_of, split, debt, None)


class Payments(Case):
    def test_exactly_one_clean_payment_leads_to_each_way(self):
        for split, debt in CASES:
            debtor, creditor, amount = debt
            clean = {}
            for over, back in product(lots_in_order(split[debtor]), lots_in_order(split[creditor])):
                if sum(over) != sum(back) + amount:
                    self.fails(BadPayment, ("amount",), after_payment, split, debt, over, back)
                    continue
                purses = list(split)
                purses[debtor] = tuple(sorted(rest_by_counts(split[debtor], over) + back))
                purses[creditor] = tuple(sorted(rest_by_counts(split[creditor], back) + over))
                self.same(after_payment(split, debt, over, back), tuple(purses))
                self.assertIn(tuple(purses), ways_by_splits(split, debt))
                if not set(over) & set(back):
                    self.assertNotIn(tuple(purses), clean)
                    clean[tuple(purses)] = Payment(over, back)
            self.assertEqual(sorted(clean), sorted(ways_by_splits(split, debt)))
            for way, payment in clean.items():
                self.same(payment_of(split, debt, turned(way)), payment)

    def test_payments_that_are_not_clean(self):
        split = ((1, 2), (1, 1))
        self.same(after_payment(split, (0, 1, 1), [2, 1], [1, 1]), ((1, 1), (1, 2)))
        self.same(after_payment(split, (0, 1, 1), [2], [1]), ((1, 1), (1, 2)))

    def test_wrong_payments_in_their_order(self):
        split, debt = ((1, 2), (1,)), (0, 1, 1)
        self.fails(BadPool, (0, "coin"), after_payment, split, debt, (0,), (0,))
        self.fails(BadPool, (0, "many"), after_payment, split, debt, None, None)
        self.fails(BadPayment, ("over",), after_payment, split, debt, (3,), None)
        self.fails(BadPayment, ("over",), after_payment, split, debt, (1, 1), None)
        self.fails(BadPool, (1, "coin"), after_payment, split, debt, (1,), (1, True))
        self.fails(BadPayment, ("back",), after_payment, split, debt, (2,), (2,))
        # The creditor hands back what was in the purse before, not what is just handed over.
        self.fails(BadPayment, ("back",), after_payment, split, debt, (1, 2), (2,))
        self.fails(BadPayment, ("amount",), after_payment, split, debt, (2,), ())
        self.fails(BadPayment, ("amount",), after_payment, split, debt, (), (1,))
        self.same(after_payment(split, debt, (2,), (1,)), ((1, 1), (2,)))

    def test_exact_payments(self):
        for split, debt in CASES:
            debtor, _, amount = debt
            lots = [lot for lot in lots_in_order(split[debtor]) if sum(lot) == amount]
            self.assertEqual(exact_payment(split, debt), lots[0] if lots else None)
        self.same(exact_payment([[3, 2, 1], []], [0, 1, 3]), (3,))
        self.assertIsNone(exact_payment(SPLIT, (0, 1, 1)))

    def test_worths_of_the_way(self):
        for split, debt in CASES[::3]:
            debtor, creditor, amount = debt
            for way in ways_of(split, debt):
                worths = list(worths_by_purses(split))
                worths[debtor] -= amount
                worths[creditor] += amount
                self.assertEqual(worths_by_purses(way), tuple(worths))


if __name__ == "__main__":
    unittest.main()
