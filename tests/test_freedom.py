"""5.6 and 5.7: whether every debt of one person to another can be paid."""

import unittest
from itertools import combinations_with_replacement

from anyworths.errors import BadDebt
from anyworths.freedom import free_pairs, greatest_unpaid, least_aid, pays_all, pays_every
from anyworths.serving import serves
from tests.roads import Case, at_once, debts_by_worths, lots_by_masks, pools_up_to, splits_in_order, ways_by_splits

COIN = 10 ** 9
SPLITS = [split for pool in pools_up_to(4, 4) for people in (1, 2) for split in splits_in_order(pool, people)]
SPLITS += [split for pool in pools_up_to(4, 3) for split in splits_in_order(pool, 3)]
SPLITS += [split for pool in pools_up_to(2, 3) for people in (4, 5) for split in splits_in_order(pool, people)]


def unpaid(debtor, creditor):
    """The amounts that have no way, by all lots of both purses."""
    sums = {sum(lot) for lot in lots_by_masks(debtor + creditor)}
    return [amount for amount in range(1, sum(debtor) + 1) if sum(creditor) + amount not in sums]


def couples(split):
    people = range(len(split))
    return [(debtor, creditor) for debtor in people for creditor in people if debtor != creditor]


class Freedom(Case):
    def test_the_greatest_unpaid_amount(self):
        for split in SPLITS:
            for debtor, creditor in couples(split):
                wanted = max(unpaid(split[debtor], split[creditor]), default=None)
                self.assertEqual(greatest_unpaid(split, debtor, creditor), wanted, (split, debtor, creditor))
                self.assertIs(pays_every(split, debtor, creditor), wanted is None)

    def test_debts_are_unpaid_exactly_if_they_have_no_way(self):
        for split in SPLITS[::7]:
            for debtor, creditor in couples(split):
                amounts = range(1, sum(split[debtor]) + 1)
                wanted = [amount for amount in amounts if not ways_by_splits(split, (debtor, creditor, amount))]
                self.assertEqual(unpaid(split[debtor], split[creditor]), wanted)

    def test_both_directions_exactly_if_the_coins_together_serve_two(self):
        for split in SPLITS:
            for debtor, creditor in couples(split):
                both = pays_every(split, debtor, creditor) and pays_every(split, creditor, debtor)
                self.assertEqual(both, serves(split[debtor] + split[creditor], 2) is None)

    def test_free_pairs_and_the_first_unpaid_debt(self):
        for split in SPLITS:
            self.same(free_pairs(split), tuple(
                (debtor, creditor) for debtor, creditor in couples(split)
                if not unpaid(split[debtor], split[creditor])
            ))
            first = [debt for debt in debts_by_worths(split) if debt[2] in unpaid(split[debt[0]], split[debt[1]])][:1]
            self.assertEqual(pays_all(split), first[0] if first else None)

    def test_examples_and_edges(self):
        self.assertEqual(greatest_unpaid([[2], [1], [1]], 0, 1), None)
        self.assertEqual(greatest_unpaid(((5, 2), (1,)), 0, 1), 3)
        self.assertIs(pays_every(((), (7,)), 0, 1), True)
        self.assertIs(pays_every(((), (7,)), 1, 0), False)
        self.same(free_pairs(((), ())), ((0, 1), (1, 0)))
        self.same(free_pairs(((3,),)), ())
        self.assertIsNone(pays_all(((3,),)))
        self.same(pays_all([[1], [], [2]]), (2, 1, 1))

    def test_great_coins_are_answered_at_once(self):
        split = (tuple(range(COIN - 5, COIN + 1)), (), (COIN,) * 6)
        with at_once():
            self.assertEqual(greatest_unpaid(split, 0, 1), sum(split[0]) - 1)
            self.same(pays_all(split), (0, 1, 1))
            self.same(free_pairs(split), ((1, 0), (1, 2)))
            self.assertEqual(len(least_aid(split, 0, 1)), 30)

    def test_wrong_persons(self):
        split = ((2,), (1,), ())
        for function in (greatest_unpaid, pays_every, least_aid):
            for one, other in ((0, 0), (0, 3), (3, 0), (-1, 0), (True, 0), (0, None), ("0", 1), (0, 1.0)):
                self.fails(BadDebt, ("persons",), function, split, one, other)


class Aid(Case):
    def test_no_fewer_coins_let_the_debtor_pay_every_amount(self):
        for split in SPLITS[::3]:
            for debtor, creditor in couples(split):
                told = least_aid(split, debtor, creditor)
                self.same(told, tuple(sorted(told)))
                self.assertEqual(unpaid(split[debtor], split[creditor] + told), [])
                if not 0 < len(told) <= 3:
                    continue
                coins = range(1, sum(split[debtor]) + 2)
                for lot in combinations_with_replacement(coins, len(told) - 1):
                    self.assertNotEqual(unpaid(split[debtor], split[creditor] + lot), [])

    def test_examples_and_edges(self):
        self.same(least_aid([[4], []], 0, 1), (1, 2))
        self.same(least_aid([[4], []], 1, 0), ())
        self.same(least_aid(((1, 9), (9,)), 0, 1), (2, 4, 8))
        # Nothing is put behind what reaches the debtor's worth.
        self.same(least_aid(((2,), (9,)), 0, 1), (1,))
        self.same(least_aid(((1, 1), (9,)), 0, 1), ())
        self.assertEqual(least_aid(((COIN,), ()), 0, 1), tuple(2 ** at for at in range(30)))


if __name__ == "__main__":
    unittest.main()
