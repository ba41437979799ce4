"""How long the splits that do not last can be kept up ([6.8], [6.9])."""

from anyworths.bands import asked_up_to, banded_in, check_band
from anyworths.debts import check_most, sums_in
from anyworths.lasting import band_around, table_key, ways_table
from anyworths.pools import check_people, check_pool, is_number, is_row
from anyworths.splits import check_purses, coins_of


def ranks_of(pool, people, *, band=None, most=None):
    """The ranks of the splits of banded_splits, None for a lasting one ([6.8])."""
    coins = check_pool(pool)
    check_people(people)
    bounds = check_band(band)
    check_most(most)
    return ranks_in(asked_rows(banded_in(coins, people, bounds), bounds, most))


def asked_rows(splits, band, most):
    """For each of the splits, a couple (debt, places of its ways) for each asked debt.

    A row ends with its first debt that has no way.
    """
    table = ways_table(splits)
    return [asked_row(purses, table, band, most) for purses in splits]


def asked_row(purses, table, band, most):
    """The row of one split of asked_rows."""
    row = []
    for debtor, creditor, greatest in asked_up_to(sums_in(purses), band, most):
        for amount in range(1, greatest + 1):
            debt = (debtor, creditor, amount)
            ways = table.get(table_key(purses, debt), ())
            row.append((debt, ways))
            # Behind a debt without a way no other one matters, and there may be billions of them.
            if len(ways) == 0:
                return row
    return row


def ranks_in(rows):
    """The ranks of splits with these asked debts."""
    ranks = [None for _ in rows]
    rank = 0
    while True:
        found = [place for place in range(len(rows)) if ranks[place] is None and leads_below(rows[place], ranks, rank)]
        if len(found) == 0:
            return tuple(ranks)
        for place in found:
            ranks[place] = rank
        rank = rank + 1


def leads_below(row, ranks, rank):
    """Whether all ways of some asked debt have ranks below this one."""
    return breaking_in(row, ranks, rank) is not None


def breaking_in(row, ranks, rank):
    """The first asked debt all of whose ways have ranks below this one, or None."""
    for debt, ways in row:
        if all([ranks[way] is not None and ranks[way] < rank for way in ways]):
            return debt
    return None


def rank_of(split, *, band=None, most=None):
    """The rank of a split, None for a lasting one ([6.8])."""
    return ranked_at(split, band, most)[0]


def ranked_at(split, band, most):
    """The rank of a split that is within the band, and its breaking debt."""
    purses = check_purses(split)
    bounds = band_around(purses, band)
    check_most(most)
    return ranked(coins_of(purses), len(purses), bounds, most)[purses]


def ranked(coins, people, band, most):
    """The rank and the breaking debt of each split within the band, for arguments that are checked."""
    splits = banded_in(coins, people, band)
    rows = asked_rows(splits, band, most)
    ranks = ranks_in(rows)
    known = {}
    for purses, row, rank in zip(splits, rows, ranks):
        known[purses] = (None, None) if rank is None else (rank, breaking_in(row, ranks, rank))
    return known


def ranks_fault(pool, people, ranks, *, band=None, most=None):
    """None if the ranks are those of ranks_of, otherwise the first word that applies ([6.9])."""
    coins = check_pool(pool)
    check_people(people)
    bounds = check_band(band)
    check_most(most)
    splits = banded_in(coins, people, bounds)
    if not is_row(ranks, len(splits), len(splits)) or not all([is_rank(rank) for rank in ranks]):
        return "ranks"
    rows = asked_rows(splits, bounds, most)
    for rank, row in zip(ranks, rows):
        word = rank_word(rank, row, ranks)
        if word is not None:
            return word
    return None


def is_rank(thing):
    """Whether a thing is None or a whole number from 0."""
    return thing is None or (is_number(thing) and thing >= 0)


def rank_word(rank, row, ranks):
    """What is wrong with the rank of a split with these asked debts, or None."""
    if rank is None:
        lasts = all([any([ranks[way] is None for way in ways]) for _, ways in row])
        return None if lasts else "lasting"
    if not leads_below(row, ranks, rank):
        return "breaking"
    if rank > 0 and not all([holds(ways, ranks, rank - 1) for _, ways in row]):
        return "holding"
    return None


def holds(ways, ranks, least):
    """Whether one of the ways has no rank, or one from least on."""
    return any([ranks[way] is None or ranks[way] >= least for way in ways])
