"""Splits: their checks, all of them, and their numbers ([1.4] to [1.7])."""

from anyworths.errors import BadNumber, BadOrder, BadPool, BadSplit
from anyworths.lots import is_within, lots_in, rest_of
from anyworths.pools import MOST_COINS, MOST_PEOPLE, check_people, check_pool, counted
from anyworths.pools import is_row, is_whole, ways_to_part


def check_purses(split):
    """A split that stands alone, without its pool ([1.4])."""
    if not is_row(split, 1, MOST_PEOPLE):
        raise BadSplit(0, "many")
    purses = []
    many = 0
    for place, purse in enumerate(split):
        coins = checked_purse(place, purse)
        many = many + len(coins)
        if many > MOST_COINS:
            raise BadSplit(place, "coins")
        purses.append(coins)
    return tuple(purses)


def checked_purse(place, purse):
    """The ascending coins of the purse at this place."""
    try:
        return check_pool(purse)
    except BadPool:
        raise BadSplit(place, "purse") from None


def pool_of(split):
    """The pool of all coins of a split ([1.4])."""
    return coins_of(check_purses(split))


def coins_of(purses):
    """What pool_of returns, for purses that are checked."""
    return tuple(sorted([coin for purse in purses for coin in purse]))


def worths_of(split):
    """The worths of a split ([1.4])."""
    return tuple([sum(purse) for purse in check_purses(split)])


def check_split(pool, people, split):
    """A split of the given pool and people ([1.5])."""
    left = check_pool(pool)
    check_people(people)
    if not is_row(split, people, people):
        raise BadSplit(0, "many")
    purses = []
    for place, purse in enumerate(split):
        coins = checked_purse(place, purse)
        if not is_within(left, coins):
            raise BadSplit(place, "coin")
        left = rest_of(left, coins)
        purses.append(coins)
    if len(left) > 0:
        raise BadSplit(people, "lacking")
    return tuple(purses)


def all_splits(pool, people):
    """All splits of a pool, each once, ordered by the lots of the persons in turn ([1.6])."""
    coins = check_pool(pool)
    check_people(people)
    yield from splits_in(coins, people)


def splits_in(coins, people):
    """What all_splits yields, for ascending coins that are checked."""
    if people == 1:
        yield (coins,)
        return
    others = people - 1
    for lot in lots_in(coins):
        left = rest_of(coins, lot)
        for purses in splits_in(left, others):
            yield (lot,) + purses


def count_splits(pool, people):
    """How many splits a pool has ([1.6])."""
    coins = check_pool(pool)
    return splits_of(coins, check_people(people))


def splits_of(coins, people):
    """What count_splits returns, for coins and people that are checked."""
    splits = 1
    for _, many in counted(coins):
        splits = splits * ways_to_part(many, people)
    return splits


def split_number(split):
    """The place of a split among all splits of its pool and people ([1.6])."""
    purses = check_purses(split)
    left = coins_of(purses)
    number = 0
    for person in range(len(purses) - 1):
        others = len(purses) - person - 1
        number = number + splits_ahead(left, purses[person], others)
        left = rest_of(left, purses[person])
    return number


def splits_ahead(coins, lot, others):
    """How many splits give the first person a lot ahead of this one, and the rest to the others."""
    number = 0
    for ahead in lots_in(coins):
        if ahead == lot:
            break
        number = number + splits_of(rest_of(coins, ahead), others)
    return number


def split_by_number(pool, people, number):
    """The split with this number ([1.6])."""
    left = check_pool(pool)
    check_people(people)
    if not is_whole(number, 0, splits_of(left, people) - 1):
        raise BadNumber()
    purses = []
    ahead = number
    for others in range(people - 1, 0, -1):
        lot, ahead = lot_by_number(left, others, ahead)
        left = rest_of(left, lot)
        purses.append(lot)
    purses.append(left)
    return tuple(purses)


def lot_by_number(coins, others, number):
    """The first person's lot in the split with this number, and the number among the splits with it."""
    left = number
    for lot in lots_in(coins):
        splits = splits_of(rest_of(coins, lot), others)
        if left < splits:
            break
        left = left - splits
    return lot, left


def split_order(purses):
    """What splits are compared by in the order of all_splits."""
    return tuple([(len(purse), purse) for purse in purses])


def renamed_split(split, order):
    """The split in which the purse of person i has become that of person order[i] ([1.7])."""
    purses = check_purses(split)
    renamed = list(purses)
    for person, name in enumerate(check_order(len(purses), order)):
        renamed[name] = purses[person]
    return tuple(renamed)


def check_order(people, order):
    """A sequence that has each person once ([1.7])."""
    if not is_row(order, people, people):
        raise BadOrder()
    for at, person in enumerate(order):
        if not is_whole(person, 0, people - 1) or person in order[:at]:
            raise BadOrder()
    return tuple(order)
