"""Newcomers who come with a lot ([8.8], [8.9])."""

from anyworths.errors import BadLots, BadPeople, BadPool
from anyworths.leaving import check_worth
from anyworths.lots import joined_pools, lots_with, rest_of
from anyworths.pools import MOST_COINS, MOST_PEOPLE, check_people, check_pool, is_row
from anyworths.serving import failing_in, serves


class Halts:
    """The place of the first newcomer who does not come, and why."""

    def __init__(self, place, unserved):
        self.place = place
        self.unserved = unserved

    def __eq__(self, other):
        return isinstance(other, Halts) and self.place == other.place and self.unserved == other.unserved


def comes(pool, people, lot):
    """None if a newcomer with this lot comes, otherwise Unserved ([8.8])."""
    coins = check_pool(pool)
    if check_people(people) == MOST_PEOPLE:
        raise BadPeople()
    return serves(joined_pools(coins, lot), people + 1)


def come_all(pool, people, lots):
    """None if newcomers with these lots come one after another, otherwise Halts ([8.8])."""
    coins = check_pool(pool)
    check_people(people)
    pools = growing_pools(coins, lots, MOST_PEOPLE - people)
    for place, together in enumerate(pools):
        unserved = serves(together, people + place + 1)
        if unserved is not None:
            return Halts(place, unserved)
    return None


def growing_pools(coins, lots, most):
    """The pools behind each of at most so many newcomers."""
    if not is_row(lots, 0, most):
        raise BadLots(0)
    pools = []
    together = coins
    for place, lot in enumerate(lots):
        try:
            together = joined_pools(together, lot)
        except BadPool:
            raise BadLots(place) from None
        pools.append(together)
    return pools


def takes_over(pool, people, worth, lot):
    """The first lot that lets a newcomer take the place of a person of this worth, or None ([8.9])."""
    coins = check_pool(pool)
    check_people(people)
    check_worth(coins, worth)
    brought = check_pool(lot)
    for taken in lots_with(coins, worth):
        together = tuple(sorted(rest_of(coins, taken) + brought))
        if len(together) <= MOST_COINS and len(failing_in(together, people)) == 0:
            return taken
    return None
