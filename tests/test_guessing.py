"""9.8, 9.9 and 9.12: splits that are guessed."""

import random
import unittest
from functools import cache

from anyworths.errors import BadDebt, BadPool, BadSeen, BadWish, CannotGuess, TooMany
from anyworths.guessing import Unsure, all_guesses, guesses_now, most_coins, sure_coins, sure_to_pay
from tests.roads import Case, at_once, listed, lots_in_order, pools_up_to, rest_by_counts, splits_in_order
from tests.roads import ways_by_splits, worths_by_purses
from tests.test_bands import JUST, MANY
from tests.test_seeing import SEEN, behind_by_counts, random_seens

COIN = 10 ** 9
POOLS = [pool for pool in pools_up_to(5, 3) if len(pool) > 1][::3]
POOLS += [(1, 1, 2, 2, 3, 3), (1, 1, 1, 2, 2, 3), (1, 2, 3, 4, 5)]
EXAMPLE = ((1, 1, 2), (2, 2), (SEEN,))


def seen_from(chance, split, most):
    """Some seens that a split bears."""
    seens = []
    for _ in range(most):
        giver, taker = chance.sample(range(len(split)), 2)
        # Mostly of few coins, so that several splits bear it.
        many = chance.choice((2, 3, 99))
        over, back = (chance.choice(lots_in_order(split[person])[:many]) for person in (giver, taker))
        if sum(over) > sum(back):
            seens.append((giver, taker, over, back))
            split = behind_by_counts(split, seens[-1:])
    return tuple(seens)


@cache
def known():
    """Pools, worths and seens, most of which have guesses."""
    chance = random.Random(31)
    rows = []
    for pool in POOLS:
        for people in (1, 2, 3, 4)[:4 if len(pool) < 5 else 3]:
            splits = splits_in_order(pool, people)
            if len(splits) > 400:
                continue
            for split in chance.choices(splits, k=6):
                seens = seen_from(chance, split, chance.choice((0, 1, 2, 4))) if people > 1 else ()
                rows.append((pool, worths_by_purses(split), seens))
            if people > 1:
                rows.append((pool, worths_by_purses(split), random_seens(chance, people, 1)))
    # Worths that many splits have.
    for pool, worths in (((1, 1, 2, 2, 3, 3), (4, 4, 4)), ((1, 2, 3, 4, 5, 6, 7, 8), (18, 18)),
                         ((1, 1, 2, 2, 3, 4), (5, 4, 4)), ((1, 2, 3, 4, 5, 6), (10, 11))):
        splits = [split for split in splits_in_order(pool, len(worths)) if worths_by_purses(split) == worths]
        rows += [(pool, worths, seen_from(chance, split, many)) for split in splits[::2] for many in (0, 1, 2)]
    return rows


def guesses_by_search(pool, worths, seens):
    """All guesses with the splits behind the seens."""
    rows = []
    for split in splits_in_order(pool, len(worths)):
        if worths_by_purses(split) == worths:
            now = behind_by_counts(split, seens)
            if not isinstance(now, int):
                rows.append((split, now))
    return rows


class Guesses(Case):
    def test_all_splits_with_these_worths_that_bear_the_seens(self):
        counts = {}
        for pool, worths, seens in known():
            rows = guesses_by_search(pool, worths, seens)
            told = (list(pool)[::-1], list(worths), listed(seens))
            self.same(all_guesses(*told), tuple(split for split, _ in rows))
            self.same(guesses_now(*told), tuple(now for _, now in rows))
            counts[min(len(rows), 3)] = counts.get(min(len(rows), 3), 0) + (len(seens) > 0)
        self.assertGreater(min(counts.values()), 5)
        self.assertEqual(sorted(counts), [0, 1, 2, 3])

    def test_the_example(self):
        self.same(all_guesses([2, 1, 1], [2, 2], [[0, 1, [2], [1]]]), (((2,), (1, 1)),))
        self.same(guesses_now(*EXAMPLE), (((1,), (1, 2)),))
        self.same(all_guesses((1, 1, 2), (2, 2), ()), (((2,), (1, 1)), ((1, 1), (2,))))
        self.same(guesses_now((1, 1, 2), (2, 2), ()), (((2,), (1, 1)), ((1, 1), (2,))))
        self.same(all_guesses((2, 2), (3, 1), ()), ())
        self.same(guesses_now((2, 2), (3, 1), ()), ())
        self.same(all_guesses((), (0, 0), ()), (((), ()),))
        self.same(all_guesses((1, 1), (1, 1), (SEEN,)), ())

    def test_the_errors_in_their_order(self):
        functions = (all_guesses, guesses_now, sure_coins, most_coins, lambda *told: sure_to_pay(*told, None))
        for function in functions:
            self.fails(BadPool, (0, "coin"), function, [0], None, None)
            self.fails(BadWish, (0, "many"), function, [1, 2], None, None)
            self.fails(BadWish, (1, "number"), function, [1, 2], (3, True), None)
            self.fails(BadWish, (2, "sum"), function, [1, 2], (1, 1), None)
            self.fails(BadSeen, (0, "many"), function, [1, 2], (1, 2), None)
            self.fails(BadSeen, (0, "persons"), function, [1, 2], (3,), (SEEN,))
            self.fails(BadSeen, (0, "persons"), function, [1, 2], (1, 2), ((2, 0, None, None),))
            self.fails(BadSeen, (0, "amount"), function, [1, 2], (1, 1, 1), ((2, 0, (1,), (1,)),))
        for pool, people in MANY:
            worths = (sum(pool),) + (0,) * (people - 1)
            for function in functions[:-1]:
                self.fails(BadSeen, (0, "many"), function, pool, worths, None)
                self.fails(TooMany, (400,), function, pool, worths, ())
                # Not even one guess, but there are too many splits.
                self.fails(TooMany, (400,), function, pool, worths, ((1, 0, (1,), ()),))
            self.fails(BadDebt, ("debt",), sure_to_pay, pool, worths, (), None)
            self.fails(TooMany, (400,), sure_to_pay, pool, worths, (), (0, 1, 1))
        for pool, people in JUST:
            worths = (sum(pool),) + (0,) * (people - 1)
            self.same(all_guesses(pool, worths, ()), ((pool,) + ((),) * (people - 1),))
            self.same(sure_coins(pool, worths, ()), ((pool,) + ((),) * (people - 1)))

    def test_without_a_guess(self):
        for pool, worths, seens in (((2, 2), (3, 1), ()), ((1, 1), (1, 1), (SEEN,)), ((2,), (1, 1), ())):
            self.same(all_guesses(pool, worths, seens), ())
            self.fails(CannotGuess, (), sure_coins, pool, worths, seens)
            self.fails(CannotGuess, (), most_coins, pool, worths, seens)
            amount = 1 if seens else worths[0]
            debtor = 1 if seens else 0
            self.fails(CannotGuess, (), sure_to_pay, pool, worths, seens, (debtor, 1 - debtor, amount))
            self.fails(BadDebt, ("amount",), sure_to_pay, pool, worths, seens, (debtor, 1 - debtor, 9))


class Sure(Case):
    def test_fewest_and_most_coins(self):
        unlike = 0
        for pool, worths, seens in known():
            rows = [now for _, now in guesses_by_search(pool, worths, seens)]
            if not rows:
                self.fails(CannotGuess, (), sure_coins, pool, worths, seens)
                continue
            for function, pick in ((sure_coins, min), (most_coins, max)):
                wanted = tuple(
                    tuple(coin for coin in sorted(set(pool))
                          for _ in range(pick(now[person].count(coin) for now in rows)))
                    for person in range(len(worths))
                )
                self.same(function(list(pool)[::-1], list(worths), listed(seens)), wanted)
            unlike += sure_coins(pool, worths, seens) != most_coins(pool, worths, seens)
        self.assertGreater(unlike, 0)
        self.same(sure_coins((1, 1, 2), (2, 2), ()), ((), ()))
        self.same(most_coins((1, 1, 2), (2, 2), ()), ((1, 1, 2), (1, 1, 2)))
        self.same(sure_coins(*EXAMPLE), ((1,), (1, 2)))

    def test_debts(self):
        answers = {}
        for pool, worths, seens in known():
            rows = [now for _, now in guesses_by_search(pool, worths, seens)]
            if not rows or len(worths) == 1:
                continue
            now_worths = worths_by_purses(rows[0])
            for debtor in range(len(worths)):
                for amount in range(1, now_worths[debtor] + 1):
                    creditor = (debtor + 1) % len(worths)
                    debt = (debtor, creditor, amount)
                    can = [now for now in rows if ways_by_splits(now, debt)]
                    cannot = [now for now in rows if not ways_by_splits(now, debt)]
                    told = sure_to_pay(list(pool)[::-1], list(worths), listed(seens), list(debt))
                    if can and cannot:
                        self.assertIsInstance(told, Unsure)
                        self.assertIn(told.can, can)
                        self.assertIn(told.cannot, cannot)
                        self.same(told, Unsure(told.can, told.cannot))
                    else:
                        self.assertIs(told, bool(can))
                    answers[told.__class__.__name__ + str(bool(can))] = True
        self.assertEqual(sorted(answers), ["UnsureTrue", "boolFalse", "boolTrue"])

    def test_debts_are_checked_at_the_worths_now(self):
        # The worths are 2 and 2, then 1 and 3.
        self.assertIs(sure_to_pay(*EXAMPLE, (1, 0, 3)), True)
        self.assertIs(sure_to_pay(*EXAMPLE, [0, 1, 1]), True)
        self.fails(BadDebt, ("amount",), sure_to_pay, *EXAMPLE, (0, 1, 2))
        self.fails(BadDebt, ("amount",), sure_to_pay, *EXAMPLE, (1, 0, 4))
        self.fails(BadDebt, ("persons",), sure_to_pay, *EXAMPLE, (1, 2, 4))
        self.fails(BadDebt, ("debt",), sure_to_pay, *EXAMPLE, (1, True, 1))
        # What was given may be more than the worth; then there is no debt and no guess.
        seens = ((0, 1, (1, 2), ()),)
        self.fails(BadDebt, ("amount",), sure_to_pay, (1, 1, 2), (1, 3), seens, (0, 1, 1))
        self.fails(CannotGuess, (), sure_to_pay, (1, 1, 2), (1, 3), seens, (1, 0, 6))
        self.fails(BadDebt, ("amount",), sure_to_pay, (1, 1, 2), (1, 3), seens, (1, 0, 7))

    def test_great_coins_are_answered_at_once(self):
        with at_once():
            pool = (COIN - 1,) * 2 + (COIN,) * 2
            worths = (2 * COIN - 1, 2 * COIN - 1)
            self.assertEqual(len(all_guesses(pool, worths, ())), 1)
            self.assertIs(sure_to_pay(pool, worths, (), (0, 1, COIN)), True)
            self.assertIs(sure_to_pay(pool, worths, (), (0, 1, COIN - 2)), False)
            self.same(sure_coins((COIN,) * 12, (12 * COIN, 0), ((0, 1, (COIN,) * 12, ()),)), ((), (COIN,) * 12))


class Least(Case):
    def test_guesses_have_the_least_lots(self):
        for pool, worths, seens in known():
            for split in all_guesses(pool, worths, seens):
                for giver, taker, over, back in seens[:1]:
                    self.assertIsNotNone(rest_by_counts(split[giver], over))
                    self.assertIsNotNone(rest_by_counts(split[taker], back))


if __name__ == "__main__":
    unittest.main()
