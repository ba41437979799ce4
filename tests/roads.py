"""Other roads to the results of the program, and what all tests share."""

import signal
import unittest
from collections import Counter
from contextlib import contextmanager
from functools import cache
from itertools import combinations, combinations_with_replacement, product

SECONDS = 20


def pools_up_to(coins, greatest):
    """All pools of at most so many coins up to the greatest."""
    return [
        pool
        for many in range(coins + 1)
        for pool in combinations_with_replacement(range(1, greatest + 1), many)
    ]


def lot_key(lot):
    return (len(lot), lot)


def split_key(split):
    return [lot_key(purse) for purse in split]


def lots_by_masks(pool):
    """The set of all lots, by the masks of the coins."""
    return {
        tuple(sorted(coin for at, coin in enumerate(pool) if mask >> at & 1))
        for mask in range(1 << len(pool))
    }


def splits_by_owners(pool, people):
    """The set of all splits, by an owner of each coin."""
    return {
        tuple(
            tuple(sorted(coin for coin, owner in zip(pool, owners) if owner == person))
            for person in range(people)
        )
        for owners in product(range(people), repeat=len(pool))
    }


def worths_by_owners(pool, people):
    """The set of the worths of all splits."""
    found = set()
    for owners in product(range(people), repeat=len(pool)):
        worths = [0] * people
        for coin, owner in zip(pool, owners):
            worths[owner] += coin
        found.add(tuple(worths))
    return found


def wishes_by_bars(total, people):
    """All wishes, by the places of bars between alike things, ascending."""
    wishes = []
    for bars in combinations(range(total + people - 1), people - 1):
        ends = (-1,) + bars + (total + people - 1,)
        wishes.append(tuple(after - before - 1 for before, after in zip(ends, ends[1:])))
    return wishes


def serves_by_formula(pool, people):
    """Whether c_k <= S_k divided by the people, rounded up, for every k."""
    coins = sorted(pool)
    return all(coin * people < sum(coins[: at + 1]) + people for at, coin in enumerate(coins))


def rows_of_coins(count, total, least=1):
    """All ascending rows of so many coins with this total."""
    if count == 0:
        return [()] if total == 0 else []
    return [
        (coin,) + row
        for coin in range(least, total // count + 1)
        for row in rows_of_coins(count - 1, total - coin, coin)
    ]


def rest_by_counts(pool, lot):
    """The pool without a lot, by counts, or None if the lot is not within."""
    left = Counter(pool)
    left.subtract(Counter(lot))
    if any(many < 0 for many in left.values()):
        return None
    return tuple(sorted(left.elements()))


@cache
def lots_in_order(pool):
    """All lots, in their order."""
    return sorted(lots_by_masks(pool), key=lot_key)


@cache
def splits_in_order(pool, people):
    """All splits, in their order."""
    return sorted(splits_by_owners(pool, people), key=split_key)


@cache
def bears_by_lots(pool, people, lost):
    """Whether the rest serves, whatever at most so many coins are lost."""
    return all(
        serves_by_formula(rest_by_counts(pool, lot), people) for lot in lots_in_order(pool) if len(lot) <= lost
    )


def pool_by_purses(split):
    return tuple(sorted(coin for purse in split for coin in purse))


def worths_by_purses(split):
    return tuple(sum(purse) for purse in split)


def debts_by_worths(split, most=None):
    """All debts of a split, by three loops."""
    worths = worths_by_purses(split)
    return [
        (debtor, creditor, amount)
        for debtor in range(len(worths))
        for creditor in range(len(worths))
        for amount in range(1, worths[debtor] + 1)
        if debtor != creditor and (most is None or amount <= most)
    ]


@cache
def ways_by_splits(split, debt):
    """All ways of a debt among all splits of the pool, in the order of the creditor's purse."""
    debtor, creditor, amount = debt
    wanted = list(worths_by_purses(split))
    wanted[debtor] -= amount
    wanted[creditor] += amount
    ways = [
        other
        for other in splits_in_order(pool_by_purses(split), len(split))
        if worths_by_purses(other) == tuple(wanted)
        and all(other[person] == split[person] for person in range(len(split)) if person not in (debtor, creditor))
    ]
    return sorted(ways, key=lambda way: lot_key(way[creditor]))


def is_in_band(worths, band):
    low, high = (0, None) if band is None else band
    return all(worth >= low and (high is None or worth <= high) for worth in worths)


@cache
def banded_by_worths(pool, people, band):
    """All splits within a band, in their order."""
    return [split for split in splits_in_order(pool, people) if is_in_band(worths_by_purses(split), band)]


@cache
def asked_by_words(split, band, most):
    """All asked debts, ascending."""
    low, high = (0, None) if band is None else band
    worths = worths_by_purses(split)
    return [
        (debtor, creditor, amount) for debtor, creditor, amount in debts_by_worths(split, most)
        if worths[debtor] - amount >= low and (high is None or worths[creditor] + amount <= high)
    ]


@cache
def lasting_by_taking_away(pool, people, band, most):
    """The greatest set of splits that no asked debt leaves, in their order."""
    lasting = set(banded_by_worths(pool, people, band))
    while True:
        falling = {
            split for split in lasting
            if any(not set(ways_by_splits(split, debt)) & lasting for debt in asked_by_words(split, band, most))
        }
        if not falling:
            return sorted(lasting, key=split_key)
        lasting -= falling


@cache
def ranks_by_counting_up(pool, people, band, most):
    """The ranks of the splits that do not last."""
    ranks = {}
    splits = banded_by_worths(pool, people, band)
    for rank in range(len(splits) + 1):
        below = set(ranks)
        for split in splits:
            if split not in below and any(
                set(ways_by_splits(split, debt)) <= below for debt in asked_by_words(split, band, most)
            ):
                ranks[split] = rank
    return ranks


def plays_by_search(split, debts):
    """All plays of a row of debts."""
    if not debts:
        return [(split,)]
    return [(split,) + play for way in ways_by_splits(split, debts[0]) for play in plays_by_search(way, debts[1:])]


def handed(split, one, other, lot, back):
    """The split when one has handed over the lot and got back the other, by counts; None if they cannot."""
    purses = [Counter(purse) for purse in split]
    purses[one].subtract(lot)
    purses[other].subtract(back)
    if any(many < 0 for purse in purses for many in purse.values()):
        return None
    purses[one].update(back)
    purses[other].update(lot)
    return tuple(tuple(sorted(purse.elements())) for purse in purses)


@cache
def exchanges_by_lots(split):
    """All exchanges of a split, by all pairs of lots, in their order."""
    return [
        (one, other, lot, back)
        for one in range(len(split)) for other in range(one + 1, len(split))
        for lot in lots_in_order(split[one]) for back in lots_in_order(split[other])
        if sum(lot) == sum(back) > 0 and lot != back
    ]


@cache
def least_by_pairs(lot, back):
    """Whether no other pair of lots within these two has equal sums above 0."""
    return all(
        (one, other) == (lot, back)
        for one in lots_in_order(lot) for other in lots_in_order(back) if sum(one) == sum(other) > 0
    )


@cache
def least_exchanges(split):
    """All least exchanges of a split, in their order."""
    return [exchange for exchange in exchanges_by_lots(split) if least_by_pairs(*exchange[2:])]


@cache
def steps_by_least(split):
    """How many least exchanges lead to each split of the piece, at least."""
    steps = {split: 0}
    rows = [split]
    for now in rows:
        for exchange in least_exchanges(now):
            there = handed(now, *exchange)
            if there not in steps:
                steps[there] = steps[now] + 1
                rows.append(there)
    return steps


@cache
def piece_by_search(split):
    """All splits to which any exchanges lead, in their order."""
    found = {split}
    rows = [split]
    for now in rows:
        for exchange in exchanges_by_lots(now):
            there = handed(now, *exchange)
            if there not in found:
                found.add(there)
                rows.append(there)
    return tuple(sorted(found, key=split_key))


def small_splits(coins=3, greatest=3, step=1):
    """Splits of small pools among one to five people."""
    return [
        split for pool in pools_up_to(coins, greatest) for people in range(1, 6)
        for split in splits_in_order(pool, people)[::1 if people < 4 else 7]
    ][::step]


def listed(value):
    """A copy of a value with lists in place of all tuples."""
    if isinstance(value, (list, tuple)):
        return [listed(item) for item in value]
    return value


def has_list(value):
    """Whether there is a list within a value, also within an object's attributes."""
    if isinstance(value, tuple):
        return any(has_list(item) for item in value)
    if isinstance(value, list):
        return True
    return any(has_list(item) for item in vars(value).values()) if hasattr(value, "__dict__") else False


@contextmanager
def at_once():
    """Stops what goes through billions of things."""

    def stop(*_):
        raise AssertionError("not answered at once")

    before = signal.signal(signal.SIGALRM, stop)
    signal.setitimer(signal.ITIMER_REAL, SECONDS)
    try:
        yield
    finally:
        signal.setitimer(signal.ITIMER_REAL, 0)
        signal.signal(signal.SIGALRM, before)


def run(function, *arguments, **more):
    """What a function returns, or the list of what its generator yields."""
    result = function(*arguments, **more)
    return list(result) if hasattr(result, "__next__") else result


class Case(unittest.TestCase):
    """A test case that can ask for an error and its attributes."""

    def fails(self, error, attributes, function, *arguments):
        """The call raises just this error with just these attributes, in the told order."""
        with self.assertRaises(error) as caught:
            run(function, *arguments)
        self.assertIs(caught.exception.__class__, error, (function, arguments))
        told = tuple(vars(caught.exception).values())
        self.assertEqual(told, attributes, (function.__name__, arguments))
        self.assertEqual([item.__class__ for item in told], [item.__class__ for item in attributes])

    def same(self, result, wanted):
        """The result is equal to what is wanted, of its class, and has no list within."""
        self.assertEqual(result, wanted)
        self.assertIs(result.__class__, wanted.__class__)
        self.assertFalse(has_list(result), result)
