"""Finer pools: coins in heaps, coins that are broken, and coins that are joined ([4.9] to [4.11])."""

from anyworths.errors import BadCoin, BadHeaps, BadLot, BadParts, BadPool
from anyworths.leastpools import check_coin
from anyworths.lots import is_within, lots_of_size, rest_of
from anyworths.pools import GREATEST_COIN, MOST_COINS, check_people, check_pool, is_row
from anyworths.serving import failing_in
from anyworths.splits import check_purses, coins_of


def finer_heaps(one, other):
    """Heaps of the one pool's coins with the other pool's coins as their sums, or None ([4.9])."""
    coins = check_pool(one)
    return heaps_in(coins, check_pool(other))


def is_finer(one, other):
    """Whether the one pool is finer than the other one ([4.9])."""
    return finer_heaps(one, other) is not None


def heaps_in(coins, sums):
    """What finer_heaps returns, for pools that are checked."""
    if sum(coins) != sum(sums):
        return None
    row = filling_row(coins, sums, {})
    if row is None:
        return None
    heaps = []
    for amount in sums:
        many = 0
        while sum(row[:many]) < amount:
            many = many + 1
        heaps.append(tuple(sorted(row[:many])))
        row = row[many:]
    return tuple(heaps)


def filling_row(coins, lacks, stuck):
    """The coins in an order that fills what the heaps lack one after another, or None; stuck keeps what failed."""
    if len(coins) == 0:
        return ()
    # How far the heaps are filled hangs on the sum of the coins that are left, so the coins tell all.
    if coins in stuck:
        return None
    for place, coin in enumerate(coins):
        if coin <= lacks[0] and coin not in coins[:place]:
            after = lacks[1:] if coin == lacks[0] else (lacks[0] - coin,) + lacks[1:]
            row = filling_row(coins[:place] + coins[place + 1:], after, stuck)
            if row is not None:
                return (coin,) + row
    stuck[coins] = True
    return None


def heaps_fault(one, other, heaps):
    """None if the heaps are right, otherwise the first word that applies ([4.9])."""
    coins = check_pool(one)
    word = heaps_word(check_pool(other), heaps)
    if word is not None:
        return word
    if coins_of(heaps) != coins:
        return "coins"
    return None


def heaps_word(sums, heaps):
    """What is wrong with heaps that shall have these sums, or None."""
    if not is_row(heaps, len(sums), len(sums)):
        return "many"
    for amount, heap in zip(sums, heaps):
        try:
            coins = check_pool(heap)
        except BadPool:
            return "heap"
        if sum(coins) != amount:
            return "sum"
    return None


def led_split(split, heaps):
    """The split with each coin exchanged for a heap ([4.10])."""
    purses = check_purses(split)
    worths = coins_of(purses)
    word = heaps_word(worths, heaps)
    if word is not None:
        raise BadHeaps(word)
    if len(coins_of(heaps)) > MOST_COINS:
        raise BadHeaps("coins")
    unused = [(worth, tuple(heap)) for worth, heap in zip(worths, heaps)]
    led = []
    for purse in purses:
        coins = []
        for coin in purse:
            at = [worth for worth, _ in unused].index(coin)
            coins.extend(unused.pop(at)[1])
        led.append(tuple(sorted(coins)))
    return tuple(led)


def broken_coin(pool, coin, parts):
    """The pool with one coin of this worth exchanged for the parts ([4.11])."""
    coins = check_pool(pool)
    if check_coin(coin) not in coins:
        raise BadLot()
    lot = check_pool(parts)
    if len(lot) < 2 or sum(lot) != coin:
        raise BadParts()
    broken = rest_of(coins, (coin,)) + lot
    if len(broken) > MOST_COINS:
        raise BadPool(0, "many")
    return tuple(sorted(broken))


def joined_coins(pool, lot):
    """The pool with a lot of its coins exchanged for one coin ([4.11])."""
    coins = check_pool(pool)
    taken = check_pool(lot)
    if not is_within(coins, taken):
        raise BadLot()
    if len(taken) < 2:
        raise BadParts()
    if sum(taken) > GREATEST_COIN:
        raise BadCoin()
    return joined_in(coins, taken)


def joined_in(coins, lot):
    """What joined_coins returns, for coins and a lot that are checked."""
    return tuple(sorted(rest_of(coins, lot) + (sum(lot),)))


def may_join(pool, people, lot):
    """Whether the pool serves the people when the lot has become one coin ([4.11])."""
    coins = check_pool(pool)
    check_people(people)
    return len(failing_in(joined_coins(coins, lot), people)) == 0


def good_joins(pool, people):
    """All lots of two coins that may be joined, ascending ([4.11])."""
    coins = check_pool(pool)
    check_people(people)
    lots = [lot for lot in lots_of_size(coins, 2) if sum(lot) <= GREATEST_COIN]
    return tuple([lot for lot in lots if len(failing_in(joined_in(coins, lot), people)) == 0])
