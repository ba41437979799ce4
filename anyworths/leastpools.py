"""Totals of serving pools, the coins they need, and all serving pools of a total ([3.2] to [3.9])."""

from anyworths.errors import BadCoin, BadCount, BadTotal, BadUnlike
from anyworths.pools import GREATEST_COIN, MOST_COINS, check_people, is_whole, up

LEAST_PEOPLE = 2
MOST_COUNT = 60
GREATEST_TOTAL = 1000000000
GREATEST_SUM = 1000000000000
MOST_YIELDED = 36


class NoPool:
    """The least and the greatest total of the serving pools of so many coins."""

    def __init__(self, low, high):
        self.low = low
        self.high = high

    def __eq__(self, other):
        return isinstance(other, NoPool) and self.low == other.low and self.high == other.high


def check_count(count, most):
    """A number of coins up to most ([3.19])."""
    if not is_whole(count, 0, most):
        raise BadCount(most)
    return count


def check_total(total, most):
    """A total up to most ([3.19])."""
    if not is_whole(total, 0, most):
        raise BadTotal(most)
    return total


def check_coin(coin):
    """A coin ([3.19])."""
    if not is_whole(coin, 1, GREATEST_COIN):
        raise BadCoin()
    return coin


def room_of(total, people):
    """The room of a total ([3.4])."""
    check_total(total, GREATEST_SUM)
    return room_at(total, check_people(people, LEAST_PEOPLE))


def room_at(total, people):
    """What room_of returns, for a total and people that are checked."""
    return total // (people - 1) + 1


def is_serving(coins, people):
    """Whether ascending coins serve the people ([3.2])."""
    return len(places_above(coins, people)) == 0


def places_above(coins, people):
    """The places of the coins above the room of the sum ahead of them ([3.2])."""
    above = []
    ahead = 0
    for place, coin in enumerate(coins):
        if coin > room_at(ahead, people):
            above.append(place)
        ahead = ahead + coin
    return above


def greatest_total(count, people):
    """The greatest total of a serving pool of so many coins ([3.4])."""
    check_count(count, MOST_COUNT)
    return greatest_behind(0, count, check_people(people, LEAST_PEOPLE))


def greatest_behind(ahead, count, people):
    """The greatest total of a serving pool with so many coins behind those that are together ahead."""
    total = ahead
    for _ in range(count):
        total = total + room_at(total, people)
    return total


def totals_row(count, people):
    """The greatest totals G_0 to G_count ([3.4])."""
    check_count(count, MOST_COUNT)
    check_people(people, LEAST_PEOPLE)
    return tuple([greatest_behind(0, many, people) for many in range(count + 1)])


def fewest_coins(total, people):
    """The least k with G_k >= total ([3.5])."""
    check_total(total, GREATEST_TOTAL)
    return fewest_for(total, check_people(people, LEAST_PEOPLE))


def fewest_for(total, people):
    """What fewest_coins returns, for a total and people that are checked."""
    count = 0
    greatest = 0
    while greatest < total:
        greatest = greatest + room_at(greatest, people)
        count = count + 1
    return count


def greatest_coin(total, people):
    """The greatest coin of any serving pool with this total ([3.6])."""
    check_total(total, GREATEST_TOTAL)
    return up(total, check_people(people, LEAST_PEOPLE))


def least_total_with(coin, people):
    """The least total of a serving pool that has this coin ([3.6])."""
    check_coin(coin)
    return check_people(people, LEAST_PEOPLE) * (coin - 1) + 1


def fewest_with(coin, people):
    """The fewest coins of a serving pool that has this coin ([3.6])."""
    check_coin(coin)
    check_people(people, LEAST_PEOPLE)
    return fewest_for((people - 1) * (coin - 1), people) + 1


def pool_for(count, total, people):
    """A serving pool of exactly so many coins with this total, or NoPool ([3.7])."""
    check_count(count, MOST_COINS)
    check_total(total, GREATEST_TOTAL)
    check_people(people, LEAST_PEOPLE)
    high = greatest_behind(0, count, people)
    if not count <= total <= high:
        return NoPool(count, high)
    coins = []
    left = total
    for still in range(count - 1, -1, -1):
        # What is left must be enough for a coin of 1 each time that is still to come.
        coin = min(room_at(total - left, people), left - still)
        coins.append(coin)
        left = left - coin
    return tuple(sorted(coins))


def all_pools(count, total, people):
    """All serving pools of exactly so many coins with this total, ascending ([3.8])."""
    check_count(count, MOST_COINS)
    check_total(total, MOST_YIELDED)
    check_people(people, LEAST_PEOPLE)
    yield from pools_behind(0, 1, count, total, people)


def pools_behind(ahead, least, count, left, people):
    """The ascending rows of count coins from least on, together left, that may stand behind the sum ahead."""
    if count == 0:
        if left == 0:
            yield ()
        return
    # Without this, rows would be begun that come to no end in this total.
    if ahead + left > greatest_behind(ahead, count, people):
        return
    fewer = count - 1
    for coin in range(least, min(room_at(ahead, people), left // count) + 1):
        behind = ahead + coin
        rest = left - coin
        for coins in pools_behind(behind, coin, fewer, rest, people):
            yield (coin,) + coins


def count_pools(count, total, people):
    """How many pools all_pools yields ([3.8])."""
    return len(list(all_pools(count, total, people)))


def all_least(total, people):
    """All serving pools of the fewest coins with this total, ascending ([3.8])."""
    check_total(total, MOST_YIELDED)
    check_people(people, LEAST_PEOPLE)
    count = fewest_for(total, people)
    yield from all_pools(count, total, people)


def greatest_unlike(count, unlike, people):
    """The greatest total of a serving pool of so many coins with so few worths, and a pool ([3.9])."""
    check_count(count, MOST_COINS)
    if not is_whole(unlike, 1, MOST_COINS):
        raise BadUnlike()
    check_people(people, LEAST_PEOPLE)
    best = [()]
    for many in range(1, count + 1):
        best.append((1,) * many)
    for _ in range(unlike - 1):
        best = [greatest_grown(best, many, people) for many in range(count + 1)]
    return sum(best[count]), best[count]


def greatest_grown(best, many, people):
    """The greatest pool of many coins that is one of the best pools and alike coins as great as they let."""
    grown = best[many]
    for first in range(many):
        coin = room_at(sum(best[first]), people)
        if sum(best[first]) + coin * (many - first) > sum(grown):
            grown = best[first] + (coin,) * (many - first)
    return grown
