"""Payments that are seen ([9.6], [9.7])."""

from anyworths.debts import is_couple
from anyworths.errors import BadPool, BadSeen, CannotSee
from anyworths.lots import is_within, lot_of
from anyworths.payments import payment_of, swapped
from anyworths.pools import check_people, check_pool, is_row
from anyworths.splits import check_purses

MOST_SEENS = 8


def check_seens(people, seens):
    """Payments that were seen among so many people, as a tuple of tuples ([9.6])."""
    check_people(people)
    if not is_row(seens, 0, MOST_SEENS):
        raise BadSeen(0, "many")
    return tuple([check_seen(people, seen, place) for place, seen in enumerate(seens)])


def check_seen(people, seen, place):
    """A payment that was seen, as a tuple; its errors tell this place."""
    if not is_row(seen, 4, 4):
        raise BadSeen(place, "seen")
    giver, taker, over, back = seen
    if not is_couple(people, giver, taker):
        raise BadSeen(place, "persons")
    given = seen_lot(over, place, "over")
    if len(given) == 0:
        raise BadSeen(place, "over")
    returned = seen_lot(back, place, "back")
    if sum(given) <= sum(returned):
        raise BadSeen(place, "amount")
    return giver, taker, given, returned


def seen_lot(lot, place, what):
    """The ascending coins of a lot that was seen."""
    try:
        return check_pool(lot)
    except BadPool:
        raise BadSeen(place, what) from None


def seen_payment(split, debt, way):
    """What is seen of the payment that leads to a way ([9.6])."""
    payment = payment_of(split, debt, way)
    debtor, creditor, _ = debt
    return debtor, creditor, payment.over, payment.back


def least_lots(people, seens):
    """The lot that each person must have for what was seen ([9.7])."""
    told = check_seens(people, seens)
    # What each person has handed out of each worth, less what the person got of it, and the greatest of that.
    spent = [{} for _ in range(people)]
    least = [{} for _ in range(people)]
    for giver, taker, over, back in told:
        for person, lot in ((giver, over), (taker, back)):
            add_lot(spent[person], lot, 1)
            for worth in lot:
                least[person][worth] = max(least[person].get(worth, 0), spent[person][worth])
        add_lot(spent[giver], back, -1)
        add_lot(spent[taker], over, -1)
    return tuple([lot_of(sorted(counts.items())) for counts in least])


def add_lot(counts, lot, times):
    """Counts each coin of a lot so many times."""
    for worth in lot:
        counts[worth] = counts.get(worth, 0) + times


def after_seens(split, seens):
    """The split behind what was seen ([9.7])."""
    purses = check_purses(split)
    rows = rows_behind(purses, check_seens(len(purses), seens))
    if len(rows) <= len(seens):
        raise CannotSee(len(rows) - 1)
    return rows[-1]


def rows_behind(purses, seens):
    """The split and those behind the seens, up to the first seen that cannot happen."""
    rows = [purses]
    for seen in seens:
        giver, taker, over, back = seen
        if not is_within(rows[-1][giver], over) or not is_within(rows[-1][taker], back):
            return rows
        rows.append(swapped(rows[-1], seen))
    return rows
