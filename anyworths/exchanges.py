"""Exchanges of lots of equal sum between two persons ([7.2], [7.3])."""

from anyworths.debts import is_couple
from anyworths.errors import BadExchange, BadPool
from anyworths.lots import beyond, is_within, lot_with, lots_in, rest_of, sums_of
from anyworths.payments import swapped, ways_in
from anyworths.pools import check_pool, is_row
from anyworths.splits import check_purses

MOST_EXCHANGES = 400


def check_exchange(split, exchange):
    """An exchange of a split as a tuple ([7.2])."""
    return exchange_at(check_purses(split), exchange, 0)


def exchange_at(purses, exchange, place):
    """An exchange of purses that are checked, as a tuple; its errors tell this place."""
    if not is_row(exchange, 4, 4):
        raise BadExchange(place, "exchange")
    one, other, lot, back = exchange
    if not is_couple(len(purses), one, other) or one > other:
        raise BadExchange(place, "persons")
    given = lot_within(purses[one], lot)
    if given is None:
        raise BadExchange(place, "lot")
    returned = lot_within(purses[other], back)
    if returned is None:
        raise BadExchange(place, "back")
    if sum(given) != sum(returned) or len(given) == 0:
        raise BadExchange(place, "sums")
    if given == returned:
        raise BadExchange(place, "alike")
    return one, other, given, returned


def lot_within(coins, lot):
    """The ascending coins of a lot of these coins, or None for another thing."""
    try:
        taken = check_pool(lot)
    except BadPool:
        return None
    return taken if is_within(coins, taken) else None


def after_exchange(split, exchange):
    """The split behind an exchange ([7.2])."""
    purses = check_purses(split)
    return swapped(purses, exchange_at(purses, exchange, 0))


def after_exchanges(split, exchanges):
    """The split behind exchanges that are made one after another ([7.2])."""
    purses = check_purses(split)
    if not is_row(exchanges, 0, MOST_EXCHANGES):
        raise BadExchange(0, "many")
    for place, exchange in enumerate(exchanges):
        purses = swapped(purses, exchange_at(purses, exchange, place))
    return purses


def is_least(split, exchange):
    """Whether no lesser exchange is within an exchange ([7.3])."""
    _, _, lot, back = check_exchange(split, exchange)
    return are_least(lot, back)


def are_least(lot, back):
    """What is_least returns, for the two lots of an exchange."""
    # Only lots between none and all can be another pair; coins of a worth that both have are such a pair, too.
    within = sums_of(lot)[1:-1]
    return len(set(within) & set(sums_of(back)[1:-1])) == 0


def exchanges_of(split):
    """All least exchanges of a split, ordered by the persons and the two lots ([7.3])."""
    purses = check_purses(split)
    for one, other in pairs_of(len(purses)):
        for lot, back in least_pairs(purses[one], purses[other]):
            yield (one, other, lot, back)


def pairs_of(people):
    """All pairs (one, other) of so many people with one below other, ascending."""
    return [(one, other) for one in range(people) for other in range(one + 1, people)]


def least_pairs(coins, others):
    """The couples (lot, back) of all least exchanges between purses with these coins, in their order."""
    backs = {}
    for lot in lots_in(others):
        backs.setdefault(sum(lot), []).append(lot)
    pairs = []
    for lot in lots_in(coins):
        # The lot of no coins has itself alone on the other side.
        pairs.extend([(lot, back) for back in backs.get(sum(lot), ()) if back != lot and are_least(lot, back)])
    return pairs


def least_parts(split, exchange):
    """Least exchanges that one after another do what an exchange does ([7.3])."""
    one, other, given, returned = check_exchange(split, exchange)
    lot = beyond(given, returned)
    back = beyond(returned, given)
    parts = []
    while len(lot) > 0:
        # No pair of lots has a lesser sum than this one, so none is within it.
        least = min([amount for amount in sums_of(lot) if amount > 0 and amount in sums_of(back)])
        part = (one, other, lot_with(lot, least), lot_with(back, least))
        parts.append(part)
        lot = rest_of(lot, part[2])
        back = rest_of(back, part[3])
    return tuple(parts)


def resplits(split, one, other):
    """All splits with the same worths that differ at most in the purses of two persons ([7.3])."""
    purses = check_purses(split)
    if not is_couple(len(purses), one, other):
        raise BadExchange(0, "persons")
    yield from resplits_in(purses, one, other, {})


def resplits_in(purses, one, other, lots):
    """The list of what resplits yields; lots keeps, for this one and its worth, what it may own."""
    # A debt of nothing has just these ways.
    return ways_in(purses, (other, one, 0), lots)
