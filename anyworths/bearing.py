"""Pools that bear a loss: their totals, all of them, and coins that make a pool one ([4.5] to [4.8])."""

from anyworths.leastpools import GREATEST_TOTAL, LEAST_PEOPLE, MOST_YIELDED, NoPool
from anyworths.leastpools import check_count, check_total, room_at
from anyworths.losses import check_lost, falling_place
from anyworths.pools import MOST_COINS, check_people, check_pool


def room_behind(coins, people, lost):
    """The greatest coin that may be put to ascending coins that bear the loss ([4.6])."""
    return room_at(sum(coins[:max(0, len(coins) - lost)]), people)


def greatest_grown(coins, count, people, lost):
    """The coins with so many further ones, each as great as may be put."""
    grown = list(coins)
    for _ in range(count):
        grown.append(room_behind(grown, people, lost))
    return grown


def greatest_bearing(count, people, lost):
    """The greatest total F_count of a pool of so many coins that bears the loss ([4.5])."""
    check_count(count, MOST_COINS)
    check_people(people, LEAST_PEOPLE)
    return sum(greatest_grown((), count, people, check_lost(lost)))


def bearing_pool(count, total, people, lost):
    """A pool of so many coins with this total that bears the loss, or NoPool ([4.5])."""
    check_count(count, MOST_COINS)
    check_total(total, GREATEST_TOTAL)
    check_people(people, LEAST_PEOPLE)
    high = sum(greatest_grown((), count, people, check_lost(lost)))
    if not count <= total <= high:
        return NoPool(count, high)
    coins = []
    left = total
    for still in range(count - 1, -1, -1):
        # What is left must be enough for a coin of 1 each time that is still to come.
        coin = min(room_behind(sorted(coins), people, lost), left - still)
        coins.append(coin)
        left = left - coin
    return tuple(sorted(coins))


def all_bearing(count, total, people, lost):
    """All pools of so many coins with this total that bear the loss, ascending ([4.5])."""
    check_count(count, MOST_COINS)
    check_total(total, MOST_YIELDED)
    check_people(people, LEAST_PEOPLE)
    check_lost(lost)
    begun = ()
    yield from bearing_behind(begun, count, total, people, lost)


def bearing_behind(coins, count, left, people, lost):
    """The pools that begin with these coins and have count further ones, together left, not below them."""
    if count == 0:
        if left == 0:
            yield coins
        return
    # Without this, pools would be begun that come to no end in this total.
    if sum(coins) + left > sum(greatest_grown(coins, count, people, lost)):
        return
    fewer = count - 1
    least = coins[-1] if len(coins) > 0 else 1
    for coin in range(least, min(room_behind(coins, people, lost), left // count) + 1):
        more = coins + (coin,)
        rest = left - coin
        yield from bearing_behind(more, fewer, rest, people, lost)


def fewest_bearing(total, people, lost):
    """The fewest coins of a pool with this total, or a greater one, that bears the loss ([4.5])."""
    check_total(total, GREATEST_TOTAL)
    check_people(people, LEAST_PEOPLE)
    check_lost(lost)
    coins = []
    while sum(coins) < total:
        coins.append(room_behind(coins, people, lost))
    return len(coins)


def next_bearing(pool, people, lost):
    """The greatest coin with which the pool still bears the loss, or None if it does not bear it ([4.6])."""
    coins = check_pool(pool)
    check_people(people, LEAST_PEOPLE)
    if falling_place(coins, people, check_lost(lost)) is not None:
        return None
    return room_behind(coins, people, lost)


def bearing_part(pool, people, lost):
    """The greatest lot of the pool that bears the loss ([4.7])."""
    coins = check_pool(pool)
    check_people(people, LEAST_PEOPLE)
    # No place falls if the pool bears the loss, and up to None are all coins.
    return coins[:falling_place(coins, people, check_lost(lost))]


def least_put(pool, people, lost):
    """A lot of the fewest coins that make the pool bear the loss ([4.8])."""
    coins = check_pool(pool)
    check_people(people, LEAST_PEOPLE)
    return put_to(coins, people, check_lost(lost))


def put_to(coins, people, lost):
    """What least_put returns, for arguments that are checked."""
    put = []
    # What is gathered is ascending: each coin is at most the room then, and the room never becomes less.
    gathered = []
    for coin in coins:
        while coin > room_behind(gathered, people, lost):
            put.append(room_behind(gathered, people, lost))
            gathered.append(put[-1])
        gathered.append(coin)
    return tuple(put)


def all_least_puts(pool, people, lost):
    """All lots of the fewest coins that make the pool bear the loss, ascending ([4.8])."""
    coins = check_pool(pool)
    check_people(people, LEAST_PEOPLE)
    count = len(put_to(coins, people, check_lost(lost)))
    # A coin that is not below the pool's greatest one would cover none of the pool's coins.
    most = max(coins, default=1) - 1
    for lot in rows_up_to(count, 1, most):
        if falling_place(sorted(coins + lot), people, lost) is None:
            yield lot


def rows_up_to(count, least, most):
    """All ascending rows of so many numbers from least to most, ascending."""
    if count == 0:
        yield ()
        return
    fewer = count - 1
    for number in range(least, most + 1):
        for row in rows_up_to(fewer, number, most):
            yield (number,) + row
