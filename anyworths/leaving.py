"""People who leave with coins, so that the rest serves the others ([8.2] to [8.6])."""

from anyworths.errors import BadAmount
from anyworths.lots import lots_in, lots_with, rest_of
from anyworths.pools import are_numbers, check_people, check_pool, is_row, is_whole
from anyworths.serving import Unserved, failing_in, serves, unserved_fault
from anyworths.splits import check_order
from anyworths.wishes import check_wish

LEAST_PEOPLE_TO_LEAVE = 2


class Stays:
    """For every lot with a person's worth, a wish that the rest does not serve."""

    def __init__(self, rows):
        self.rows = rows

    def __eq__(self, other):
        return isinstance(other, Stays) and self.rows == other.rows


def check_worth(coins, worth):
    """A whole number from 0 to the sum of the coins ([8.2])."""
    if not is_whole(worth, 0, sum(coins)):
        raise BadAmount()
    return worth


def taken_lot(pool, worth):
    """The coins that are taken from the greatest on, as long as they fit, or None ([8.2])."""
    coins = check_pool(pool)
    lack = check_worth(coins, worth)
    lot = ()
    for coin in coins[::-1]:
        if coin <= lack:
            lot = (coin,) + lot
            lack = lack - coin
    return lot if lack == 0 else None


def lots_leaving(pool, left, worth):
    """All lots with this sum whose rest serves so many people, in the order of lots ([8.4])."""
    coins = check_pool(pool)
    check_people(left)
    check_worth(coins, worth)
    for lot in lots_with(coins, worth):
        if len(failing_in(rest_of(coins, lot), left)) == 0:
            yield lot


def worths_leaving(pool, left):
    """All sums of lots whose rest serves so many people, ascending ([8.4])."""
    coins = check_pool(pool)
    check_people(left)
    lots = [lot for lot in lots_in(coins) if len(failing_in(rest_of(coins, lot), left)) == 0]
    return tuple(sorted(set([sum(lot) for lot in lots])))


def leaves(pool, people, worth):
    """The first lot with which a person of this worth leaves, or Stays ([8.5])."""
    coins = check_pool(pool)
    left = check_people(people, LEAST_PEOPLE_TO_LEAVE) - 1
    check_worth(coins, worth)
    for lot in lots_leaving(coins, left, worth):
        return lot
    rows = []
    for lot in lots_with(coins, worth):
        unserved = serves(rest_of(coins, lot), left)
        rows.append((lot, unserved.place, unserved.wish))
    return Stays(tuple(rows))


def stays_fault(pool, people, worth, stays):
    """None if a Stays is right, otherwise the first word that applies ([8.5])."""
    coins = check_pool(pool)
    left = check_people(people, LEAST_PEOPLE_TO_LEAVE) - 1
    check_worth(coins, worth)
    if not isinstance(stays.rows, (list, tuple)) or not all([is_row(row, 3, 3) for row in stays.rows]):
        return "rows"
    lots = list(lots_with(coins, worth))
    if len(stays.rows) != len(lots):
        return "lots"
    if not all([is_same_lot(row[0], lot) for row, lot in zip(stays.rows, lots)]):
        return "lots"
    for lot, place, wish in stays.rows:
        if unserved_fault(rest_of(coins, lot), left, Unserved(place, wish)) is not None:
            return "wish"
    return None


def is_same_lot(thing, lot):
    """Whether a thing is this tuple, with no True in the place of 1."""
    return isinstance(thing, tuple) and are_numbers(thing) and thing == lot


def all_leave(pool, wish, order):
    """The split in which each person has the lot taken when they leave in this order, or None ([8.6])."""
    left = check_pool(pool)
    numbers = check_wish(wish, sum(left))
    names = check_order(len(numbers), order)
    purses = [() for _ in names]
    for gone, person in enumerate(names[:-1]):
        lot = leaves(left, len(names) - gone, numbers[person])
        if isinstance(lot, Stays):
            return None
        purses[person] = lot
        left = rest_of(left, lot)
    purses[names[-1]] = left
    return tuple(purses)


def first_leavers(pool, wish):
    """The persons of a wish who may be the first to leave, ascending ([8.6])."""
    coins = check_pool(pool)
    numbers = check_wish(wish, sum(coins))
    people = len(numbers)
    if people < LEAST_PEOPLE_TO_LEAVE:
        return (0,)
    stay = [isinstance(leaves(coins, people, number), Stays) for number in numbers]
    return tuple([person for person in range(people) if not stay[person]])
