"""The lots of a pool: all of them, their sums, and what is left without one ([1.2], [1.3])."""

from anyworths.errors import BadLot, BadPool
from anyworths.pools import MOST_COINS, check_amount, check_pool, counted


def all_lots(pool):
    """All lots of a pool, each once, in the order of lots ([1.2])."""
    coins = check_pool(pool)
    yield from lots_in(coins)


def lots_in(coins):
    """What all_lots yields, for ascending coins that are checked."""
    for size in range(len(coins) + 1):
        yield from lots_of_size(coins, size)


def lots_of_size(coins, size):
    """The lots of so many of the ascending coins, ascending."""
    if size == 0:
        yield ()
        return
    fewer = size - 1
    for place in range(len(coins) - fewer):
        # An alike coin ahead has begun these lots already.
        if place == 0 or coins[place] != coins[place - 1]:
            behind = coins[place + 1:]
            for lot in lots_of_size(behind, fewer):
                yield (coins[place],) + lot


def count_lots(pool):
    """How many lots a pool has ([1.2])."""
    lots = 1
    for _, many in counted(check_pool(pool)):
        lots = lots * (many + 1)
    return lots


def lots_with(pool, amount):
    """The lots with this sum, in the order of lots ([1.2])."""
    coins = check_pool(pool)
    check_amount(amount)
    for lot in lots_in(coins):
        if sum(lot) == amount:
            yield lot


def lot_with(pool, amount):
    """The first lot with this sum, or None ([1.2])."""
    for lot in lots_with(pool, amount):
        return lot
    return None


def sums_of(pool):
    """The unlike sums of all lots, ascending ([1.2])."""
    sums = [0]
    for coin in check_pool(pool):
        sums = sorted(set(sums + [ahead + coin for ahead in sums]))
    return tuple(sums)


def has_lot(pool, lot):
    """Whether a lot is within a pool ([1.3])."""
    coins = check_pool(pool)
    return is_within(coins, check_pool(lot))


def is_within(coins, lot):
    """What has_lot returns, for coins that are checked."""
    return all([lot.count(worth) <= coins.count(worth) for worth in lot])


def less_lot(pool, lot):
    """The rest of a pool without a lot ([1.3])."""
    coins = check_pool(pool)
    taken = check_pool(lot)
    if not is_within(coins, taken):
        raise BadLot()
    return rest_of(coins, taken)


def rest_of(coins, lot):
    """The ascending coins without a lot that is within them."""
    left = list(coins)
    for coin in lot:
        left.remove(coin)
    return tuple(left)


def joined_pools(one, other):
    """The pool of the coins of both ([1.3])."""
    coins = check_pool(one) + check_pool(other)
    if len(coins) > MOST_COINS:
        raise BadPool(0, "many")
    return tuple(sorted(coins))


def lot_of(counts):
    """The lot with so many coins of each worth, by couples (worth, how many)."""
    return tuple([worth for worth, many in counts for _ in range(many)])


def beyond(coins, others):
    """The coins that are more than those of the others, worth by worth."""
    left = list(others)
    more = []
    for coin in coins:
        if coin in left:
            left.remove(coin)
        else:
            more.append(coin)
    return tuple(more)
