"""Debts that break what does not last, and choosers that hold it up the longest ([6.10], [6.11])."""

from anyworths.bands import check_band, is_asked_at
from anyworths.debts import check_debt, check_most, sums_in
from anyworths.errors import BadBand
from anyworths.lasting import band_around
from anyworths.payments import ways_in
from anyworths.playing import next_split
from anyworths.pools import check_people, check_pool
from anyworths.ranks import ranked, ranked_at
from anyworths.splits import check_purses, coins_of


class Collapse:
    """The debts that were asked, and the splits at which they were asked."""

    def __init__(self, debts, splits):
        self.debts = debts
        self.splits = splits

    def __eq__(self, other):
        return isinstance(other, Collapse) and self.debts == other.debts and self.splits == other.splits


def breaking_debt(split, *, band=None, most=None):
    """The first asked debt all of whose ways have lesser ranks, None for a lasting split ([6.10])."""
    return ranked_at(split, band, most)[1]


def longest_way(split, debt, *, band=None, most=None):
    """The first way that is lasting, or else of the greatest rank, None if there is no way ([6.10])."""
    purses = check_purses(split)
    told = check_debt(purses, debt)
    bounds = band_around(purses, band)
    check_most(most)
    known = ranked(coins_of(purses), len(purses), bounds, most)
    if not is_asked_at(sums_in(purses), told, bounds, most):
        raise BadBand("debt")
    ways = ways_in(purses, told, {})
    return longest_of(ways, known) if len(ways) > 0 else None


def longest_of(ways, known):
    """The first of the ways that is lasting, or else of the greatest rank."""
    ranks = [known[way][0] for way in ways]
    if None in ranks:
        return ways[ranks.index(None)]
    return ways[ranks.index(max(ranks))]


def longest_chooser(pool, people, *, band=None, most=None):
    """A chooser that returns what longest_way returns, where the debt is asked, and else the first way ([6.10])."""
    coins = check_pool(pool)
    check_people(people)
    bounds = check_band(band)
    check_most(most)
    known = ranked(coins, people, bounds, most)

    def choose(split, debt, ways):
        purses = check_purses(split)
        if purses not in known or not is_asked_at(sums_in(purses), debt, bounds, most):
            return ways[0]
        return longest_of(ways, known)

    return choose


def play_breaking(split, choose, *, band=None, most=None):
    """The play of a chooser against the breaking debts, None from a lasting split ([6.11])."""
    purses = check_purses(split)
    bounds = band_around(purses, band)
    check_most(most)
    known = ranked(coins_of(purses), len(purses), bounds, most)
    if known[purses][0] is None:
        return None
    debts = []
    splits = []
    # Every breaking debt leads to lesser ranks, so this comes to one that has no way.
    while purses is not None:
        splits.append(purses)
        debts.append(known[purses][1])
        purses = next_split(purses, debts[-1], choose, len(debts) - 1)
    return Collapse(tuple(debts), tuple(splits))
