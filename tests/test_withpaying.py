"""7.1 and 7.6: debts that are paid with exchanges ahead."""

import unittest

from anyworths.debts import all_debts
from anyworths.errors import BadAmount, BadDebt, BadPeople, BadPool, BadSplit, TooMany
from anyworths.payments import can_pay
from anyworths.pieces import piece_of
from anyworths.serving import serves
from anyworths.withpaying import Closed, NeverPaid, PaidWith, always_paid, paid_with, paid_with_fault, unpaid_with
from anyworths.withpaying import ways_with
from tests.roads import Case, at_once, debts_by_worths, handed, has_list, least_exchanges, listed, piece_by_search
from tests.roads import pools_up_to, small_splits, split_key, splits_in_order, steps_by_least, ways_by_splits
from tests.roads import worths_by_purses
from tests.test_bands import JUST, MANY
from tests.test_pieces import APART, JUST_PIECES, MANY_PIECES

COIN = 10 ** 9
SPLIT = ((2,), (), (1, 1))
DEBT = (0, 1, 1)
SPLITS = small_splits(step=2) + [
    split for pool, people in (((1, 1, 2, 2), 3), ((2, 2, 3, 3), 2), ((1, 2, 3, 4), 2), ((1, 1, 1, 3), 3))
    for split in splits_in_order(pool, people)[::4]
]
SMALL = [(pool, people) for pool in pools_up_to(3, 3) for people in range(1, 5)] + [
    ((1, 1, 1, 2), 3), ((1, 1, 2, 2), 3), ((1, 2, 2, 3), 3), ((1, 1, 2, 4), 2), ((1, 1, 1, 1, 3), 2), ((1, 1), 5),
    ((1, 2), 5), ((1, 1, 1), 5), ((1, 1, 2), 5), ((2, 2, 2, 3), 2),
]


def ways_by_search(split, debt):
    """All ways of a debt from all splits of the piece, in their order."""
    ways = {way for there in piece_by_search(split) for way in ways_by_splits(there, debt)}
    return sorted(ways, key=split_key)


def unpaid_by_search(split, most=None):
    return tuple(debt for debt in debts_by_worths(split, most) if not ways_by_search(split, debt))


class Paid(Case):
    def test_as_few_exchanges_as_can_be(self):
        ahead = 0
        for split in SPLITS:
            steps = steps_by_least(split)
            for debt in debts_by_worths(split):
                told = paid_with(listed(split), list(debt))
                open_ends = [there for there in steps if ways_by_splits(there, debt)]
                if not open_ends:
                    self.same(told, Closed(piece_by_search(split)))
                    continue
                self.assertIsInstance(told, PaidWith)
                self.assertFalse(has_list(told))
                self.assertEqual(len(told.exchanges), min(steps[there] for there in open_ends))
                now = split
                for exchange in told.exchanges:
                    self.assertIn(exchange, least_exchanges(now))
                    now = handed(now, *exchange)
                self.assertEqual(told.purses, now)
                self.assertIn(told.way, ways_by_splits(now, debt))
                self.assertIsNone(paid_with_fault(split, debt, told))
                ahead += len(told.exchanges) > 0
        self.assertGreater(ahead, 0)

    def test_the_example(self):
        self.same(paid_with([[2], [], [1, 1]], [0, 1, 1]), PaidWith(
            ((0, 2, (2,), (1, 1)),), ((1, 1), (), (2,)), ((1,), (1,), (2,))))
        self.same(paid_with(((2,), (2,), (1,)), (0, 1, 1)), Closed((((2,), (2,), (1,)),)))
        self.same(paid_with(SPLIT, (0, 1, 2)), PaidWith((), SPLIT, ((), (2,), (1, 1))))

    def test_all_ways_of_the_piece(self):
        for split in SPLITS:
            for debt in debts_by_worths(split):
                self.assertEqual(list(ways_with(split, debt)), ways_by_search(split, debt))
        self.assertEqual(list(ways_with([[2], [], [1, 1]], [0, 1, 1])), [((1,), (1,), (2,))])
        self.assertEqual(list(ways_with(((2,), (2,), (1,)), (0, 1, 1))), [])

    def test_debts_that_cannot_be_paid(self):
        unlike = 0
        for split in SPLITS:
            for most in (None, 1, 2, COIN):
                wanted = unpaid_by_search(split, most)
                self.same(unpaid_with(split, most), wanted)
                unlike += len(wanted) < sum(not can_pay(split, debt) for debt in debts_by_worths(split, most))
            self.same(unpaid_with(split), unpaid_by_search(split))
        self.assertGreater(unlike, 0)
        self.same(unpaid_with(((5,),)), ())
        self.same(unpaid_with(((2,), (2,), (1,)), most=1), ((0, 1, 1), (1, 0, 1)))

    def test_the_errors_in_their_order(self):
        for function in (paid_with, ways_with):
            self.fails(BadSplit, (0, "many"), function, (), None)
            self.fails(BadDebt, ("debt",), function, SPLIT, None)
            self.fails(BadDebt, ("persons",), function, SPLIT, (0, 3, 9))
            self.fails(BadDebt, ("amount",), function, SPLIT, (0, 1, 3))
        self.fails(BadSplit, (0, "purse"), unpaid_with, (None,), 0)
        for most in (0, True, "1", -1, 12 * COIN + 1):
            self.fails(BadAmount, (), unpaid_with, SPLIT, most)


class Bounds(Case):
    def test_pieces_of_more_than_four_hundred_splits(self):
        for split in JUST_PIECES:
            debt = debts_by_worths(split)[0]
            told = paid_with(split, debt)
            self.assertIsNone(paid_with_fault(split, debt, told))
            self.assertIn(told.way, list(ways_with(split, debt)))
            self.assertEqual(unpaid_with(split), ())
        for split in MANY_PIECES:
            split = split[1:] + split[:1]
            # This debt can be paid at once.
            debt = (0, 1, sum(split[0]))
            self.fails(BadDebt, ("debt",), paid_with, split, None)
            for function in (paid_with, ways_with):
                self.fails(TooMany, (400,), function, split, debt)
                self.fails(TooMany, (400,), function, split, (0, 1, 1))
            self.fails(TooMany, (400,), unpaid_with, split, 1)
            self.fails(BadAmount, (), unpaid_with, split, 0)
            way = ((), split[0] + split[1]) + split[2:]
            self.assertIsNone(paid_with_fault(split, debt, PaidWith((), split, way)))

    def test_more_than_four_hundred_debts(self):
        for split, count in ((((400,), ()), 400), (((200,), (), ()), 400), (((100, 1), (33, 66)), 200)):
            self.assertEqual(len(debts_by_worths(split)), count)
            self.same(unpaid_with(split), unpaid_by_search(split))
        for split in (((401,), ()), ((200,), (1,), ()), ((COIN,), (COIN,)), ((134,), (), (), ())):
            self.fails(TooMany, (400,), unpaid_with, split)
            self.fails(BadAmount, (), unpaid_with, split, 0)
        # The greatest amount bounds how many debts there are.
        self.same(unpaid_with(((COIN,), ()), 3), ((0, 1, 1), (0, 1, 2), (0, 1, 3)))
        self.assertEqual(len(unpaid_with(((COIN,), ()), 400)), 400)
        self.fails(TooMany, (400,), unpaid_with, ((COIN,), ()), 401)
        self.assertEqual(len(unpaid_with(((COIN,), (COIN,)), 200)), 400)
        self.fails(TooMany, (400,), unpaid_with, ((COIN,), (COIN,)), 201)

    def test_always_paid_asks_only_pools_that_do_not_serve(self):
        for pool, people in MANY + JUST:
            if serves(pool, people) is None:
                self.assertIsNone(always_paid(pool, people))
        self.assertIsNone(always_paid((1,) * 12, 5))
        self.assertIsNone(always_paid((COIN,) * 12, 1))
        self.assertIsNone(always_paid([1 << at for at in range(12)], 2))
        for pool, people in (((1, 2, 3, 4, 4, 4, 4), 3), ((1, 2, 3, 4), 5), ((1, 1, 1, 1, 1, 2, 9), 5)):
            self.fails(TooMany, (400,), always_paid, pool, people)
        # (people - 1) * total is 400, and above.
        self.same(always_paid((400,), 2), NeverPaid(((), (400,)), (1, 0, 1)))
        self.same(always_paid((100,), 5), NeverPaid(((), (), (), (), (100,)), (4, 0, 1)))
        for pool, people in (((401,), 2), ((201,), 3), ((COIN,), 2), ((101,), 5), ((2, 2, 399), 2)):
            self.fails(TooMany, (400,), always_paid, pool, people)
        self.fails(BadPool, (0, "coin"), always_paid, [0], 0)
        self.fails(BadPeople, (), always_paid, [COIN], 6)


class Always(Case):
    def test_exactly_if_the_pool_serves(self):
        for pool, people in SMALL:
            unpaid = [
                (split, unpaid_by_search(split)[0]) for split in splits_in_order(pool, people)
                if unpaid_by_search(split)
            ]
            self.same(always_paid(list(pool)[::-1], people), NeverPaid(*unpaid[0]) if unpaid else None)
            if people > 1:
                self.assertEqual(serves(pool, people) is None, not unpaid)

    def test_splits_of_one_worth_that_are_apart(self):
        for pool, wish in APART:
            first = next(split for split in splits_in_order(pool, 3) if unpaid_by_search(split))
            self.same(always_paid(pool, 3), NeverPaid(first, unpaid_by_search(first)[0]))
            unlike = [split for split in splits_in_order(pool, 3) if worths_by_purses(split) == wish]
            rows = [unpaid_with(split) for split in unlike]
            self.assertEqual(rows, [unpaid_by_search(split) for split in unlike])
            self.assertEqual(len(set(rows)), 2)


class Judged(Case):
    def test_every_right_result_has_no_fault(self):
        for split in small_splits(step=5):
            for debt in debts_by_worths(split):
                for there in piece_by_search(split):
                    for exchanges in rows_between(split, there):
                        for way in ways_by_splits(there, debt):
                            for told in (PaidWith(exchanges, there, way), PaidWith(
                                    listed(exchanges), listed(there), listed(way))):
                                self.assertIsNone(paid_with_fault(split, debt, told))

    def test_more_exchanges_than_are_needed_are_no_fault(self):
        back = ((0, 2, (2,), (1, 1)), (0, 2, (1, 1), (2,)))
        there = ((1, 1), (), (2,))
        way = ((1,), (1,), (2,))
        for times in (0, 1, 5):
            self.assertIsNone(paid_with_fault(SPLIT, DEBT, PaidWith(back * times + back[:1], there, way)))
        self.assertIsNone(paid_with_fault(SPLIT, (0, 1, 2), PaidWith(back, SPLIT, ((), (2,), (1, 1)))))

    def test_each_word(self):
        good = ((0, 2, (2,), (1, 1)),)
        there, way = ((1, 1), (), (2,)), ((1,), (1,), (2,))
        for exchanges in (None, 0, "", good * 2, (None,), ((2, 0, (1, 1), (2,)),), ((0, 2, (2,), (1,)),), {0: 1},
                          (good[0], (0, 2, (1, 1), (2,))) * 201, good + (None,)):
            self.assertEqual(paid_with_fault(SPLIT, DEBT, PaidWith(exchanges, there, way)), "exchanges")
        # An exchange that is none of the least ones.
        split, after = ((1, 1, 4), (2, 2, 2), ()), ((2, 2, 2), (1, 1, 4), ())
        for exchanges, word in ((((0, 1) + split[:2],), "exchanges"), (
                ((0, 1, (1, 1), (2,)), (0, 1, (4,), (2, 2))), None)):
            told = PaidWith(exchanges, after, ((2, 2), (1, 1, 4), (2,)))
            self.assertEqual(paid_with_fault(split, (0, 2, 2), told), word)
        for purses in (None, 0, (), SPLIT, there[:2], there + ((),), ((1,), (), (2,)), ((1, 1), (), (True, 1)),
                       ((1, 1), (2,), ())):
            self.assertEqual(paid_with_fault(SPLIT, DEBT, PaidWith(good, purses, None)), "purses")
        for wrong in (None, 0, (), there, SPLIT, ((), (2,), (1, 1)), ((1,), (2,), (1,)), ((1,), (1,)), "",
                      ((1,), (1,), (2,), ()), ((1,), (True,), (2,))):
            self.assertEqual(paid_with_fault(SPLIT, DEBT, PaidWith(good, there, wrong)), "way")
        self.assertIsNone(paid_with_fault(SPLIT, DEBT, PaidWith(good, there, way)))
        self.assertEqual(paid_with_fault(SPLIT, DEBT, PaidWith((), SPLIT, way)), "way")
        self.fails(BadSplit, (0, "many"), paid_with_fault, (), None, None)
        self.fails(BadDebt, ("debt",), paid_with_fault, SPLIT, None, None)


def rows_between(split, there):
    """Rows of least exchanges from one split to another, by all first exchanges."""
    if split == there:
        return [()]
    steps = steps_by_least(there)
    return [
        (exchange,) + row for exchange in least_exchanges(split) for after in [handed(split, *exchange)]
        if steps[after] < steps[split] for row in rows_between(after, there)
    ]


class Great(Case):
    def test_twelve_coins_are_answered_at_once(self):
        with at_once():
            split = ((COIN - 1, COIN), (COIN,), (COIN,) * 3, (COIN - 1,) * 3, (COIN,) * 3)
            self.assertEqual(paid_with(split, (0, 1, COIN)).exchanges, ())
            told = paid_with(split, (1, 0, 1))
            self.assertIsNone(paid_with_fault(split, (1, 0, 1), told))
            self.assertIsInstance(paid_with(split, (2, 1, 2)), Closed)
            piece = piece_of(split)
            self.same(unpaid_with(split, 20), tuple(
                debt for debt in all_debts(split, 20) if not any(can_pay(there, debt) for there in piece)))
            self.assertIsNone(always_paid([1] * 12, 5))
            powers = tuple(1 << at for at in range(12))
            self.assertEqual(len(list(ways_with((powers, ()), (0, 1, 2048)))), 1)


if __name__ == "__main__":
    unittest.main()
