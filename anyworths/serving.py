"""How many people a pool serves, and wishes that are short of room ([2.1] to [2.3])."""

from anyworths.errors import BadWish
from anyworths.pools import check_people, check_pool, is_whole, sums_ahead, up
from anyworths.wishes import check_wish, even_parts


class Unserved:
    """A place of a pool and a wish that is short of room there."""

    def __init__(self, place, wish):
        self.place = place
        self.wish = wish

    def __eq__(self, other):
        return isinstance(other, Unserved) and self.place == other.place and self.wish == other.wish


def failing_places(pool, people):
    """All places that fail, ascending ([2.1])."""
    coins = check_pool(pool)
    return failing_in(coins, check_people(people))


def failing_in(coins, people):
    """What failing_places returns, for coins and people that are checked."""
    sums = sums_ahead(coins)
    return tuple([place for place, coin in enumerate(coins) if coin > up(sums[place + 1], people)])


def serves(pool, people):
    """None if the pool serves the people, otherwise Unserved ([2.1])."""
    coins = check_pool(pool)
    failing = failing_in(coins, check_people(people))
    if len(failing) == 0:
        return None
    return Unserved(failing[0], unserved_wish(coins, people, failing[0]))


def unserved_wish(coins, people, place):
    """The wish that no split meets if this place fails ([2.1])."""
    total = sum(coins[:place + 1])
    share = up(total, people)
    others = even_parts(total - share, people - 1)
    return (share + sum(coins[place + 1:]),) + others


def most_people(pool):
    """The greatest number of people that the pool serves, None if it serves every number ([2.2])."""
    return most_served(check_pool(pool))


def most_served(coins):
    """What most_people returns, for coins that are checked."""
    sums = sums_ahead(coins)
    bounds = [(sums[place + 1] - 1) // (coin - 1) for place, coin in enumerate(coins) if coin > 1]
    return min(bounds, default=None)


def most_people_row(pool):
    """What most_people is for the least coin, the two least ones and so on ([2.2])."""
    coins = check_pool(pool)
    return tuple([most_served(coins[:many]) for many in range(1, len(coins) + 1)])


def short_room(pool, wish):
    """The first place at which the wish is short of room, or None ([2.3])."""
    coins = check_pool(pool)
    numbers = check_wish(wish, sum(coins))
    for place in range(len(coins)):
        if is_short(coins, numbers, place):
            return place
    return None


def is_short(coins, numbers, place):
    """Whether a wish is short of room at this place ([2.3])."""
    coin = coins[place]
    return sum(coins[place:]) > sum([number for number in numbers if number >= coin])


def unserved_fault(pool, people, unserved):
    """None if an Unserved is right, otherwise the first word that applies ([2.3])."""
    coins = check_pool(pool)
    check_people(people)
    if not is_whole(unserved.place, 0, len(coins) - 1):
        return "place"
    try:
        numbers = check_wish(unserved.wish, sum(coins))
    except BadWish:
        return "wish"
    if len(numbers) != people:
        return "wish"
    if not is_short(coins, numbers, unserved.place):
        return "room"
    return None
