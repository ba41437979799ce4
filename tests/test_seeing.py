"""9.6, 9.7 and 9.12: payments that are seen."""

import random
import unittest
from collections import Counter

from anyworths.errors import BadDebt, BadPeople, BadSeen, BadSplit, BadWay, CannotSee
from anyworths.payments import payment_of
from anyworths.seeing import after_seens, check_seens, least_lots, seen_payment
from tests.roads import Case, at_once, debts_by_worths, handed, listed, lots_in_order, pools_up_to, rest_by_counts
from tests.roads import small_splits, splits_in_order, ways_by_splits

COIN = 10 ** 9
SEEN = (0, 1, (2,), (1,))
SPLIT = ((2, 2), (1, 1), ())
SMALL = [pool for pool in pools_up_to(5, 3) if len(pool) > 2]


def behind_by_counts(split, seens):
    """The split behind the seens, or the place of the first that cannot happen."""
    for place, seen in enumerate(seens):
        after = handed(split, *seen)
        if after is None:
            return place
        split = after
    return split


def random_seens(chance, people, most):
    """Some seens, also ones that no small split bears."""
    seens = []
    lots = [lot for lot in lots_in_order((1, 1, 2, 3))]
    while len(seens) < most:
        giver, taker = chance.sample(range(people), 2)
        over, back = chance.choice(lots), chance.choice(lots)
        if sum(over) > sum(back):
            seens.append((giver, taker, over, back))
    return tuple(seens)


def cases():
    chance = random.Random(23)
    for _ in range(400):
        people = chance.choice((2, 2, 3, 4))
        yield people, random_seens(chance, people, chance.randint(0, 4))


def splits_near(chance, people, seens):
    """Some small splits, and splits that have about the coins that the seens need."""
    splits = chance.choices(splits_in_order(chance.choice(SMALL), people), k=5)
    lots = least_by_words(people, seens)
    if sum(map(len, lots)) < 12:
        splits.append(lots)
        for _ in range(5):
            giver, taker = chance.choices(range(people), k=2)
            coin = chance.choice(lots[giver] + (1,))
            if coin in lots[giver]:
                splits.append(handed(lots, giver, taker, (coin,), ()) if giver != taker else lots)
            splits.append(tuple(tuple(sorted(lot + (coin,) * (at == taker))) for at, lot in enumerate(lots)))
    return splits


def least_by_words(people, seens):
    """The least lots, worth by worth, by the words of the document."""
    lots = []
    for person in range(people):
        lot = []
        for coin in range(1, 9):
            greatest = 0
            for at, seen in enumerate(seens):
                out = [told[2] if told[0] == person else told[3] for told in seens[:at + 1] if person in told[:2]]
                got = [told[3] if told[0] == person else told[2] for told in seens[:at] if person in told[:2]]
                if person in seen[:2]:
                    many = sum(given.count(coin) for given in out) - sum(taken.count(coin) for taken in got)
                    hands = (seen[2] if seen[0] == person else seen[3]).count(coin)
                    greatest = max(greatest, many if hands else 0)
            lot += [coin] * greatest
        lots.append(tuple(lot))
    return tuple(lots)


class Checked(Case):
    def test_seens_as_tuples(self):
        self.same(check_seens(2, [[0, 1, [2, 1], [1]]]), ((0, 1, (1, 2), (1,)),))
        self.same(check_seens(1, []), ())
        self.same(check_seens(5, (SEEN,) * 8), (SEEN,) * 8)
        self.same(check_seens(2, ((0, 1, (COIN,) * 12, (COIN,) * 11),)), ((0, 1, (COIN,) * 12, (COIN,) * 11),))
        for people, seens in cases():
            self.same(check_seens(people, [(one, two, list(over)[::-1], list(back)[::-1])
                                           for one, two, over, back in seens]), seens)

    def test_each_word(self):
        for seens in (None, 0, "", {}, (SEEN,) * 9, [None] * 9, range(2), {SEEN}):
            self.fails(BadSeen, (0, "many"), check_seens, 2, seens)
        words = [(thing, "seen") for thing in (None, 0, "0121", (), SEEN[:3], SEEN + ((),), {0: 1}, range(4))]
        words += [(couple + (None, None), "persons") for couple in (
            (0, 0), (0, 2), (2, 0), (-1, 0), (True, 0), (0, True), (None, 0), (0, "1"), (0, 1.0), ((0,), 1))]
        words += [((0, 1, over, None), "over") for over in (
            None, 2, "2", (), [], {2}, (0,), (True,), (1,) * 13, (COIN + 1,), (None,))]
        words += [((0, 1, (2,), back), "back") for back in (None, 1, "1", {1}, (0,), (True,), (1,) * 13, (None,))]
        words += [((0, 1, over, back), "amount") for over, back in (
            ((2,), (2,)), ((2,), (1, 1)), ((1,), (2,)), ((1, 2), [3]), ((1,), (COIN,) * 12))]
        for thing, word in words:
            self.fails(BadSeen, (0, word), check_seens, 2, [thing, None])
            self.fails(BadSeen, (2, word), check_seens, 2, (SEEN, list(SEEN), thing, None))
        self.fails(BadSeen, (0, "persons"), check_seens, 1, (SEEN,))

    def test_the_errors_in_their_order(self):
        for function in (check_seens, least_lots):
            for people in (0, 6, True, None, "2", 2.0):
                self.fails(BadPeople, (), function, people, None)
            self.fails(BadSeen, (0, "many"), function, 2, None)
            self.fails(BadSeen, (1, "over"), function, 2, (SEEN, (0, 1, (), ())))
        self.fails(BadSplit, (0, "many"), after_seens, (), None)
        self.fails(BadSeen, (0, "many"), after_seens, SPLIT, None)
        self.fails(BadSeen, (1, "persons"), after_seens, SPLIT, ((2, 0, (9,), ()), (3, 0, None, None)))
        # All seens are checked before the first one happens.
        self.fails(BadSeen, (1, "amount"), after_seens, SPLIT, ((2, 0, (9,), ()), (0, 1, (1,), (1,))))


class Payments(Case):
    def test_what_is_seen_of_a_payment(self):
        for split in small_splits(step=3):
            for debt in debts_by_worths(split):
                for way in ways_by_splits(split, debt):
                    debtor, creditor, amount = debt
                    over = Counter(split[debtor]) - Counter(way[debtor])
                    back = Counter(way[debtor]) - Counter(split[debtor])
                    seen = (debtor, creditor, tuple(sorted(over.elements())), tuple(sorted(back.elements())))
                    self.same(seen_payment(listed(split), list(debt), listed(way)), seen)
                    self.assertEqual(check_seens(len(split), [seen]), (seen,))
                    self.assertEqual(after_seens(split, [seen]), way)
                    payment = payment_of(split, debt, way)
                    self.assertEqual(seen[2:], (payment.over, payment.back))

    def test_the_errors_in_their_order(self):
        split = ((2,), (1,))
        self.fails(BadSplit, (0, "many"), seen_payment, (), None, None)
        self.fails(BadDebt, ("debt",), seen_payment, split, None, None)
        self.fails(BadDebt, ("amount",), seen_payment, split, (0, 1, 3), None)
        for way, word in ((None, "purses"), (((1,),), "people"), (((1,), ()), "pool"), (split, "worths")):
            self.fails(BadWay, (word,), seen_payment, split, (0, 1, 1), way)
        self.fails(BadWay, ("others",), seen_payment, split + ((2,),), (0, 1, 1), ((), (1,), (2, 2)))


class Behind(Case):
    def test_one_after_another(self):
        bore, refused = 0, {}
        chance = random.Random(5)
        for people, seens in cases():
            for split in splits_near(chance, people, seens):
                wanted = behind_by_counts(split, seens)
                if isinstance(wanted, int):
                    self.fails(CannotSee, (wanted,), after_seens, listed(split), listed(seens))
                    refused[wanted] = True
                else:
                    self.same(after_seens(listed(split), listed(seens)), wanted)
                    bore += len(seens) > 1
        self.assertGreater(bore, 0)
        self.assertLessEqual({0, 1, 2}, set(refused))

    def test_a_split_bears_the_seens_exactly_if_it_has_the_least_lots(self):
        truths = {}
        chance = random.Random(9)
        for people, seens in cases():
            lots = least_lots(people, seens)
            for split in splits_near(chance, people, seens):
                bears = not isinstance(behind_by_counts(split, seens), int)
                has = all(rest_by_counts(purse, lot) is not None for purse, lot in zip(split, lots))
                self.assertEqual(bears, has)
                truths[bears] = truths.get(bears, 0) + (len(seens) > 1)
        self.assertGreater(min(truths.values()), 20)

    def test_least_lots_by_words(self):
        for people, seens in cases():
            lots = least_lots(people, listed(seens))
            self.same(lots, least_by_words(people, seens))
            if sum(map(len, lots)) <= 12:
                # These very lots bear the seens, and none of their coins can be left out.
                self.assertNotIsInstance(behind_by_counts(lots, seens), int)
                for person, lot in enumerate(lots):
                    for coin in set(lot):
                        less = lots[:person] + (rest_by_counts(lot, (coin,)),) + lots[person + 1:]
                        self.assertIsInstance(behind_by_counts(less, seens), int)

    def test_some_rows(self):
        self.same(least_lots(2, [SEEN]), ((2,), (1,)))
        self.same(least_lots(3, ()), ((), (), ()))
        self.same(least_lots(1, ()), ((),))
        self.same(least_lots(2, ((0, 1, (2,), (1,)), (1, 0, (2,), (1,)))), ((2,), (1,)))
        # Coins of one worth may be in both lots: each hands out of the own purse first.
        self.same(least_lots(2, ((0, 1, (1, 1), (1,)),)), ((1, 1), (1,)))
        self.fails(CannotSee, (0,), after_seens, ((1, 1), ()), ((0, 1, (1, 1), (1,)),))
        self.same(after_seens(((1, 1), (1,)), ((0, 1, (1, 1), (1,)),)), ((1,), (1, 1)))
        # More than twelve coins in one lot.
        self.same(least_lots(2, ((0, 1, (1,) * 12, ()), (0, 1, (1, 2), ()))), ((1,) * 13 + (2,), ()))
        self.same(after_seens([[2, 2], [1, 1], []], [[0, 1, [2], [1]]]), ((1, 2), (1, 2), ()))
        self.same(after_seens(SPLIT, []), SPLIT)
        self.fails(CannotSee, (0,), after_seens, SPLIT, ((2, 0, (1,), ()),))
        self.fails(CannotSee, (2,), after_seens, SPLIT, (SEEN, SEEN, SEEN))
        self.fails(CannotSee, (1,), after_seens, ((2, 2), (1,)), (SEEN, SEEN))

    def test_great_coins_are_answered_at_once(self):
        with at_once():
            seens = ((0, 1, (COIN,) * 12, ()), (1, 0, (COIN,) * 12, ())) * 4
            self.same(least_lots(2, seens), ((COIN,) * 12, ()))
            self.same(after_seens(((COIN,) * 12, ()), seens), ((COIN,) * 12, ()))


if __name__ == "__main__":
    unittest.main()
