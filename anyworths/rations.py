"""Rations: what people ask for that need not be the whole pool ([2.9] to [2.11])."""

from anyworths.errors import BadMost, BadRation
from anyworths.greedy import lacks_after, most_lacking
from anyworths.pools import MOST_PEOPLE, check_people, check_pool, is_number, is_row, is_whole
from anyworths.pools import sums_ahead
from anyworths.wishes import even_parts


class Short:
    """A place of a pool and a ration that cannot be handed out because of the coin there."""

    def __init__(self, place, ration):
        self.place = place
        self.ration = ration

    def __eq__(self, other):
        return isinstance(other, Short) and self.place == other.place and self.ration == other.ration


class Handed:
    """Lots that are a ration, and the other coins."""

    def __init__(self, lots, rest):
        self.lots = lots
        self.rest = rest

    def __eq__(self, other):
        return isinstance(other, Handed) and self.lots == other.lots and self.rest == other.rest


class Lacking:
    """What the persons lack of a ration at the end, and the coins that nobody got."""

    def __init__(self, lacks, rest):
        self.lacks = lacks
        self.rest = rest

    def __eq__(self, other):
        return isinstance(other, Lacking) and self.lacks == other.lacks and self.rest == other.rest


def check_ration(pool, ration):
    """A ration of a pool as a tuple ([2.9])."""
    total = sum(check_pool(pool))
    if not is_row(ration, 1, MOST_PEOPLE):
        raise BadRation(0, "many")
    together = 0
    for place, number in enumerate(ration):
        if not is_number(number) or number < 0:
            raise BadRation(place, "number")
        together = together + number
        if together > total:
            raise BadRation(place, "sum")
    return tuple(ration)


def greatest_ration(pool, people):
    """The greatest sum up to which every ration can be handed out ([2.10])."""
    coins = check_pool(pool)
    place = short_place(coins, check_people(people), sum(coins))
    return sum(coins) if place is None else sum(coins[:place])


def short_place(coins, people, most):
    """The first place whose coin is too great for a ration of at most so much, or None ([2.10])."""
    sums = sums_ahead(coins)
    for place, coin in enumerate(coins):
        if sums[place] < most and sums[place] < people * (coin - 1):
            return place
    return None


def serves_rations(pool, people, most):
    """None if every ration of at most so much can be handed out, otherwise Short ([2.10])."""
    coins = check_pool(pool)
    check_people(people)
    if not is_whole(most, 0, sum(coins)):
        raise BadMost()
    place = short_place(coins, people, most)
    if place is None:
        return None
    return Short(place, even_parts(sum(coins[:place]) + 1, people))


def hand_rations(pool, ration):
    """Handed or Lacking, by handing coins out to those who lack most ([2.11])."""
    coins = check_pool(pool)
    lacks = check_ration(coins, ration)
    lots = [() for _ in lacks]
    rest = ()
    for coin in coins[::-1]:
        person = most_lacking(coin, lacks)
        if lacks[person] < coin:
            rest = (coin,) + rest
        else:
            lots[person] = (coin,) + lots[person]
            lacks = lacks_after(lacks, person, coin)
    if max(lacks) == 0:
        return Handed(tuple(lots), rest)
    return Lacking(lacks, rest)
