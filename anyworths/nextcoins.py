"""Coins that may be put to a pool, and those that mend it ([3.10] to [3.12])."""

from anyworths.leastpools import LEAST_PEOPLE, check_coin, is_serving, places_above, room_at
from anyworths.pools import check_people, check_pool, sums_ahead


def room_row(pool, people):
    """The rooms of the sums of the first coins, from none to all ([3.10])."""
    coins = check_pool(pool)
    check_people(people, LEAST_PEOPLE)
    return tuple([room_at(ahead, people) for ahead in sums_ahead(coins)])


def fitting_coins(pool, people):
    """The least and the greatest coin that together with the pool serve, or None ([3.11])."""
    coins = check_pool(pool)
    check_people(people, LEAST_PEOPLE)
    above = places_above(coins, people)
    if len(above) == 0:
        return 1, room_at(sum(coins), people)
    high = room_at(sum(coins[:above[0]]), people)
    low = max([(people - 1) * (coins[place] - 1) - sum(coins[:place]) for place in above])
    return (low, high) if low <= high else None


def next_coin(pool, people):
    """The greatest coin that together with the pool serves, or None ([3.11])."""
    fitting = fitting_coins(pool, people)
    return None if fitting is None else fitting[1]


def may_put(pool, coin, people):
    """Whether the pool and this coin together serve ([3.11])."""
    coins = check_pool(pool)
    check_coin(coin)
    check_people(people, LEAST_PEOPLE)
    return is_serving(sorted(coins + (coin,)), people)


def mending_coins(pool, people):
    """A lot of the fewest coins that together with the pool serve ([3.12])."""
    coins = check_pool(pool)
    check_people(people, LEAST_PEOPLE)
    put = []
    ahead = 0
    for coin in coins:
        while coin > room_at(ahead, people):
            put.append(room_at(ahead, people))
            ahead = ahead + put[-1]
        ahead = ahead + coin
    return tuple(put)
