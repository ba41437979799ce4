"""Bands of worths, and the debts that are asked within them ([6.1], [6.2])."""

from anyworths.debts import bounded, check_debt, check_most, couples_of, sums_in
from anyworths.errors import BadBand, TooMany
from anyworths.pools import GREATEST_AMOUNT, check_people, check_pool, is_row, is_whole
from anyworths.searching import MOST_LISTED
from anyworths.splits import check_purses, splits_in, splits_of


def check_band(band):
    """The bounds of a band as a tuple; None has no bounds ([6.1])."""
    if band is None:
        return 0, None
    if not is_row(band, 2, 2):
        raise BadBand("band")
    low, high = band
    if not is_whole(low, 0, GREATEST_AMOUNT):
        raise BadBand("low")
    if high is not None and not is_whole(high, low, GREATEST_AMOUNT):
        raise BadBand("high")
    return low, high


def fits(worths, band):
    """Whether all worths are within a band."""
    low, high = band
    return low <= min(worths) and (high is None or max(worths) <= high)


def is_banded(split, *, band=None):
    """Whether a split is within a band ([6.1])."""
    purses = check_purses(split)
    return fits(sums_in(purses), check_band(band))


def banded_splits(pool, people, *, band=None):
    """The splits within a band, in the order of all_splits ([6.1])."""
    coins = check_pool(pool)
    check_people(people)
    bounds = check_band(band)
    yield from banded_in(coins, people, bounds)


def banded_in(coins, people, band):
    """The list of what banded_splits yields, for arguments that are checked."""
    return [purses for purses in few_splits(coins, people) if fits(sums_in(purses), band)]


def few_splits(coins, people):
    """The list of all splits, if they are not too many."""
    check_few(coins, people)
    return list(splits_in(coins, people))


def check_few(coins, people):
    """Refuses pools with too many splits."""
    if splits_of(coins, people) > MOST_LISTED:
        raise TooMany(MOST_LISTED)


def asked_debts(split, *, band=None, most=None):
    """The debts that are asked at a split, ascending ([6.2])."""
    worths = sums_in(check_purses(split))
    bounds = check_band(band)
    check_most(most)
    for debtor, creditor, greatest in asked_up_to(worths, bounds, most):
        for amount in range(1, greatest + 1):
            yield (debtor, creditor, amount)


def asked_up_to(worths, band, most):
    """A triple (debtor, creditor, greatest amount) for all couples of whom some debt is asked, ascending."""
    low, high = band
    asked = []
    for debtor, creditor in couples_of(len(worths)):
        room = worths[debtor] - low
        if high is not None:
            room = min(room, high - worths[creditor])
        if room > 0:
            asked.append((debtor, creditor, bounded(room, most)))
    return asked


def is_asked(split, debt, *, band=None, most=None):
    """Whether a debt is asked at a split ([6.2])."""
    purses = check_purses(split)
    told = check_debt(purses, debt)
    bounds = check_band(band)
    return is_asked_at(sums_in(purses), told, bounds, check_most(most))


def is_asked_at(worths, debt, band, most):
    """What is_asked returns, for arguments that are checked."""
    debtor, creditor, amount = debt
    for one, other, greatest in asked_up_to(worths, band, most):
        if (one, other) == (debtor, creditor):
            return amount <= greatest
    return False
