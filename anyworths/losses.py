"""Pools that lose coins: what they bear, and what fells them ([4.1] to [4.4])."""

from anyworths.errors import BadLost, BadPool, BadWish
from anyworths.lots import is_within, lots_of_size, rest_of
from anyworths.pools import MOST_COINS, check_people, check_pool, counted, is_number, is_whole
from anyworths.searching import layers_in
from anyworths.serving import failing_in, unserved_wish
from anyworths.wishes import check_wish


class Fallen:
    """A lot whose loss fells a pool, the coin that is too great then, and a wish without a split."""

    def __init__(self, lot, coin, wish):
        self.lot = lot
        self.coin = coin
        self.wish = wish

    def __eq__(self, other):
        return (isinstance(other, Fallen) and self.lot == other.lot and self.coin == other.coin
                and self.wish == other.wish)


def check_lost(lost):
    """A number of coins that may be lost ([4.1])."""
    if not is_whole(lost, 0, MOST_COINS):
        raise BadLost()
    return lost


def cover_at(coins, place, lost):
    """The cover of the coin at this place of ascending coins ([4.1])."""
    return sum(coins[:max(0, place - lost)])


def falling_place(coins, people, lost):
    """The place of the first coin that is above the room of its cover, or None ([4.1])."""
    for place, coin in enumerate(coins):
        # Coins above the room are the same as these, and one person has room for every coin.
        if (people - 1) * (coin - 1) > cover_at(coins, place, lost):
            return place
    return None


def serves_after(pool, people, lost):
    """None if the pool bears the loss of so many coins, otherwise Fallen ([4.2])."""
    coins = check_pool(pool)
    check_people(people)
    check_lost(lost)
    place = falling_place(coins, people, lost)
    if place is None:
        return None
    kept = max(0, place - lost)
    rest = coins[:kept] + coins[place:]
    return Fallen(coins[kept:place], coins[place], unserved_wish(rest, people, failing_in(rest, people)[0]))


def fallen_fault(pool, people, lost, fallen):
    """None if a Fallen is right, otherwise the first word that applies ([4.2])."""
    coins = check_pool(pool)
    check_people(people)
    check_lost(lost)
    try:
        lot = check_pool(fallen.lot)
    except BadPool:
        return "lot"
    if not is_within(coins, lot):
        return "lot"
    if len(lot) > lost:
        return "many"
    return rest_fault(rest_of(coins, lot), people, fallen.coin, fallen.wish)


def rest_fault(rest, people, coin, wish):
    """None if the coin is too great for the rest and the wish has no split, otherwise the first word."""
    if not is_number(coin) or coin not in rest:
        return "coin"
    if (people - 1) * (coin - 1) <= sum([below for below in rest if below < coin]):
        return "coin"
    try:
        numbers = check_wish(wish, sum(rest))
    except BadWish:
        return "wish"
    if len(numbers) != people:
        return "wish"
    if len(layers_in(rest, numbers)[-1]) > 0:
        return "split"
    return None


def felling_lots(pool, people, lost):
    """All lots of at most so many coins whose loss leaves a rest that does not serve, in their order ([4.3])."""
    coins = check_pool(pool)
    check_people(people)
    check_lost(lost)
    for size in range(min(lost, len(coins)) + 1):
        for lot in lots_of_size(coins, size):
            if len(failing_in(rest_of(coins, lot), people)) > 0:
                yield lot


def needed_coins(pool, people):
    """The worths without one coin of which the pool does not serve, ascending ([4.3])."""
    coins = check_pool(pool)
    check_people(people)
    return tuple([worth for worth, _ in counted(coins) if len(failing_in(rest_of(coins, (worth,)), people)) > 0])


def most_lost(pool, people):
    """The greatest loss that the pool bears: None if every one, -1 if it does not serve ([4.4])."""
    coins = check_pool(pool)
    check_people(people)
    for lost in range(len(coins) + 1):
        if falling_place(coins, people, lost) is not None:
            return lost - 1
    return None


def most_people_after(pool, lost):
    """The greatest number of people for whom the pool bears the loss, None if every number ([4.4])."""
    coins = check_pool(pool)
    return most_bearing(coins, check_lost(lost))


def most_bearing(coins, lost):
    """What most_people_after returns, for coins and a loss that are checked."""
    bounds = [cover_at(coins, place, lost) // (coin - 1) + 1 for place, coin in enumerate(coins) if coin > 1]
    return min(bounds, default=None)


def loss_table(pool):
    """What most_people_after is for every loss from none to all coins ([4.4])."""
    coins = check_pool(pool)
    return tuple([most_bearing(coins, lost) for lost in range(len(coins) + 1)])
