"""Splits from which debts can be paid for ever ([6.3] to [6.5])."""

from anyworths.bands import asked_up_to, check_band, few_splits, fits
from anyworths.debts import check_most, couples_of, sums_in
from anyworths.errors import BadBand, TooMany
from anyworths.payments import with_purses
from anyworths.pools import check_people, check_pool, up
from anyworths.serving import failing_in
from anyworths.splits import check_purses, coins_of

MOST_TOTAL = 100
UNIT = 1


def lasting_splits(pool, people, *, band=None, most=None):
    """The lasting splits, in the order of all_splits ([6.3])."""
    coins = check_pool(pool)
    check_people(people)
    bounds = check_band(band)
    check_most(most)
    return lasting_in(coins, people, bounds)


def lasting_in(coins, people, band):
    """What lasting_splits returns for every greatest amount, for arguments that are checked."""
    splits = few_splits(coins, people)
    return tuple([splits[place] for place in lasting_places(unit_steps(splits), band)])


def unit_steps(splits):
    """The worths of each split, and the places of the ways of each of its debts of 1 by couple."""
    table = ways_table(splits)
    steps = []
    for purses in splits:
        worths = sums_in(purses)
        debts = [(debtor, creditor, UNIT) for debtor, creditor in couples_of(len(purses)) if worths[debtor] > 0]
        steps.append((worths, {debt[:2]: table.get(table_key(purses, debt), ()) for debt in debts}))
    return steps


def ways_table(splits):
    """The places of the splits that are the ways of a debt, by what table_key returns for it.

    They stand in the order of the creditor's purse.
    """
    table = {}
    for place, purses in enumerate(splits):
        for debtor, creditor in couples_of(len(purses)):
            # A debt of nothing leads from a split to itself.
            table.setdefault(table_key(purses, (debtor, creditor, 0)), []).append(place)
    return {key: by_purse(places, splits, key[1]) for key, places in table.items()}


def table_key(purses, debt):
    """What just the ways of a debt have in common: the couple, the other purses, the debtor's worth."""
    debtor, creditor, amount = debt
    return debtor, creditor, with_purses(purses, debtor, (), creditor, ()), sum(purses[debtor]) - amount


def by_purse(places, splits, person):
    """The places in the order of this person's purses as lots."""
    return tuple(sorted(places, key=lambda place: (len(splits[place][person]), splits[place][person])))


def lasting_places(steps, band):
    """The places of the lasting splits, ascending: the greatest closed set.

    It is the same for every greatest amount, so debts of 1 alone are asked.
    """
    needed = {}
    for place, (worths, ways) in enumerate(steps):
        if fits(worths, band):
            needed[place] = [ways[debt[:2]] for debt in asked_up_to(worths, band, UNIT)]
    before = len(needed) + 1
    while len(needed) < before:
        before = len(needed)
        for place in list(needed):
            if not all([leads_into(ways, needed) for ways in needed[place]]):
                del needed[place]
    return list(needed)


def leads_into(ways, known):
    """Whether one of the ways is among the known ones."""
    for way in ways:
        if way in known:
            return True
    return False


def lasting_wishes(pool, people, *, band=None, most=None):
    """The worths of the lasting splits, ascending, each once ([6.3])."""
    lasting = lasting_splits(pool, people, band=band, most=most)
    return tuple(sorted(set([sums_in(purses) for purses in lasting])))


def is_lasting(split, *, band=None, most=None):
    """Whether a split is a lasting one ([6.3])."""
    purses = check_purses(split)
    bounds = band_around(purses, band)
    check_most(most)
    return purses in lasting_in(coins_of(purses), len(purses), bounds)


def band_around(purses, band):
    """The bounds of a band that a split is within."""
    bounds = check_band(band)
    if not fits(sums_in(purses), bounds):
        raise BadBand("worths")
    return bounds


def lasts_for(pool, people):
    """Whether there is a lasting split without a band ([6.5])."""
    coins = check_pool(pool)
    if check_people(people) == 1:
        return True
    if people == 2:
        return len(failing_in(coins, people)) == 0
    return all([coin == 1 for coin in coins])


def widest_bands(pool, people):
    """The lasting bands that lie within no other one, ascending ([6.5])."""
    coins = check_pool(pool)
    check_people(people)
    steps = bounded_steps(coins, people)
    total = sum(coins)
    bands = []
    low = 0
    # The even wish lies within all these bands, so no greater high end lets a lesser low one.
    for high in range(up(total, people), total + 1):
        low = least_from(steps, low, high, total // people)
        if low is None:
            break
        bands = [band for band in bands if band[0] < low] + [(low, high)]
    return tuple(bands)


def bounded_steps(coins, people):
    """What unit_steps returns for all splits, if neither they nor the total are too many."""
    splits = few_splits(coins, people)
    if sum(coins) > MOST_TOTAL:
        raise TooMany(MOST_TOTAL)
    return unit_steps(splits)


def least_from(steps, least, high, most):
    """The first low end from least to most with which this high end makes a lasting band, or None."""
    for low in range(least, most + 1):
        if len(lasting_places(steps, (low, high))) > 0:
            return low
    return None


def least_low(pool, people):
    """The least low end with which the total makes a lasting band, or None ([6.5])."""
    coins = check_pool(pool)
    check_people(people)
    steps = bounded_steps(coins, people)
    return least_from(steps, 0, sum(coins), sum(coins) // people)
