"""Coins that are handed out from the greatest on ([2.4], [2.5])."""

from anyworths.errors import BadChoice
from anyworths.pools import check_pool, is_whole
from anyworths.wishes import check_wish


class Stuck:
    """A coin that nobody can take, and what the persons lack then."""

    def __init__(self, coin, lacks):
        self.coin = coin
        self.lacks = lacks

    def __eq__(self, other):
        return isinstance(other, Stuck) and self.coin == other.coin and self.lacks == other.lacks


def greatest_first(pool, wish):
    """The split made by handing each coin to the first of those who lack most, or Stuck ([2.4])."""
    return hand_out(pool, wish, most_lacking)


def most_lacking(_, lacks):
    """The first of those who lack most."""
    return lacks.index(max(lacks))


def giving_steps(pool, wish):
    """A triple (coin, person, lacks ahead) for each coin that greatest_first hands out ([2.4])."""
    coins = check_pool(pool)
    lacks = check_wish(wish, sum(coins))
    for coin in coins[::-1]:
        person = most_lacking(coin, lacks)
        if lacks[person] < coin:
            return
        yield (coin, person, lacks)
        lacks = lacks_after(lacks, person, coin)


def lacks_after(lacks, person, coin):
    """The lacks when this person has got the coin."""
    return lacks[:person] + (lacks[person] - coin,) + lacks[person + 1:]


def hand_out(pool, wish, choose):
    """The split made by handing each coin to the person that choose returns, or Stuck ([2.5])."""
    coins = check_pool(pool)
    lacks = check_wish(wish, sum(coins))
    purses = [() for _ in lacks]
    for place, coin in enumerate(coins[::-1]):
        if max(lacks) < coin:
            return Stuck(coin, lacks)
        person = choose(coin, lacks)
        if not is_whole(person, 0, len(lacks) - 1) or lacks[person] < coin:
            raise BadChoice(place)
        purses[person] = (coin,) + purses[person]
        lacks = lacks_after(lacks, person, coin)
    return tuple(purses)
