"""Other roads to the results of the program, and what all tests share."""

import signal
import unittest
from contextlib import contextmanager
from itertools import combinations, combinations_with_replacement, product

SECONDS = 20


def pools_up_to(coins, greatest):
    """All pools of at most so many coins up to the greatest."""
    return [
        pool
        for many in range(coins + 1)
        for pool in combinations_with_replacement(range(1, greatest + 1), many)
    ]


def lot_key(lot):
    return (len(lot), lot)


def split_key(split):
    return [lot_key(purse) for purse in split]


def lots_by_masks(pool):
    """The set of all lots, by the masks of the coins."""
    return {
        tuple(sorted(coin for at, coin in enumerate(pool) if mask >> at & 1))
        for mask in range(1 << len(pool))
    }


def splits_by_owners(pool, people):
    """The set of all splits, by an owner of each coin."""
    return {
        tuple(
            tuple(sorted(coin for coin, owner in zip(pool, owners) if owner == person))
            for person in range(people)
        )
        for owners in product(range(people), repeat=len(pool))
    }


def worths_by_owners(pool, people):
    """The set of the worths of all splits."""
    found = set()
    for owners in product(range(people), repeat=len(pool)):
        worths = [0] * people
        for coin, owner in zip(pool, owners):
            worths[owner] += coin
        found.add(tuple(worths))
    return found


def wishes_by_bars(total, people):
    """All wishes, by the places of bars between alike things, ascending."""
    wishes = []
    for bars in combinations(range(total + people - 1), people - 1):
        ends = (-1,) + bars + (total + people - 1,)
        wishes.append(tuple(after - before - 1 for before, after in zip(ends, ends[1:])))
    return wishes


def serves_by_formula(pool, people):
    """Whether c_k <= S_k divided by the people, rounded up, for every k."""
    coins = sorted(pool)
    return all(coin * people < sum(coins[: at + 1]) + people for at, coin in enumerate(coins))


def rows_of_coins(count, total, least=1):
    """All ascending rows of so many coins with this total."""
    if count == 0:
        return [()] if total == 0 else []
    return [
        (coin,) + row
        for coin in range(least, total // count + 1)
        for row in rows_of_coins(count - 1, total - coin, coin)
    ]


def listed(value):
    """A copy of a value with lists in place of all tuples."""
    if isinstance(value, (list, tuple)):
        return [listed(item) for item in value]
    return value


def has_list(value):
    """Whether there is a list within a value, also within an object's attributes."""
    if isinstance(value, tuple):
        return any(has_list(item) for item in value)
    if isinstance(value, list):
        return True
    return any(has_list(item) for item in vars(value).values()) if hasattr(value, "__dict__") else False


@contextmanager
def at_once():
    """Stops what goes through billions of things."""

    def stop(*_):
        raise AssertionError("not answered at once")

    before = signal.signal(signal.SIGALRM, stop)
    signal.setitimer(signal.ITIMER_REAL, SECONDS)
    try:
        yield
    finally:
        signal.setitimer(signal.ITIMER_REAL, 0)
        signal.signal(signal.SIGALRM, before)


def run(function, *arguments):
    """What a function returns, or the list of what its generator yields."""
    result = function(*arguments)
    return list(result) if hasattr(result, "__next__") else result


class Case(unittest.TestCase):
    """A test case that can ask for an error and its attributes."""

    def fails(self, error, attributes, function, *arguments):
        """The call raises just this error with just these attributes, in the told order."""
        with self.assertRaises(error) as caught:
            run(function, *arguments)
        self.assertIs(caught.exception.__class__, error, (function, arguments))
        told = tuple(vars(caught.exception).values())
        self.assertEqual(told, attributes, (function.__name__, arguments))
        self.assertEqual([item.__class__ for item in told], [item.__class__ for item in attributes])

    def same(self, result, wanted):
        """The result is equal to what is wanted, of its class, and has no list within."""
        self.assertEqual(result, wanted)
        self.assertIs(result.__class__, wanted.__class__)
        self.assertFalse(has_list(result), result)
