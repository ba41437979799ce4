"""Payments, wishes and rows of debts for which as few coins as can be are moved ([9.3] to [9.5])."""

from anyworths.bands import check_few, few_splits
from anyworths.debtrows import row_from
from anyworths.debts import check_debt, sums_in
from anyworths.errors import BadSplits
from anyworths.moving import moved_coins
from anyworths.payments import ways_in
from anyworths.splits import check_purses, coins_of
from anyworths.wishes import check_wish


class PaidRow:
    """How many coins are moved, and the splits behind the debts of a row."""

    def __init__(self, moved, splits):
        self.moved = moved
        self.splits = splits

    def __eq__(self, other):
        return isinstance(other, PaidRow) and self.moved == other.moved and self.splits == other.splits


class Halted:
    """The place of the first debt of a row that cannot be paid."""

    def __init__(self, place):
        self.place = place

    def __eq__(self, other):
        return isinstance(other, Halted) and self.place == other.place


def fewest_in_payment(split, debt):
    """The fewest coins moved by a way of a debt, and the first such way, or None ([9.3])."""
    purses = check_purses(split)
    told = check_debt(purses, debt)
    return nearest(purses, ways_in(purses, told, {}))


def nearest(purses, splits):
    """A couple of the fewest coins moved to one of the splits, and the first such split, None without any."""
    if len(splits) == 0:
        return None
    moved = [moved_coins(purses, there) for there in splits]
    return min(moved), splits[moved.index(min(moved))]


def fewest_to_wish(split, wish):
    """The fewest coins moved to meet a wish, and the first split that does, or None ([9.4])."""
    purses = check_purses(split)
    numbers = check_wish(wish, sum(sums_in(purses)))
    if len(numbers) != len(purses):
        raise BadSplits("people")
    splits = few_splits(coins_of(purses), len(purses))
    return nearest(purses, [there for there in splits if sums_in(there) == numbers])


def cheapest_row(split, debts):
    """The play of a row of debts that moves the fewest coins, or Halted ([9.5])."""
    purses = check_purses(split)
    row, _ = row_from(purses, debts)
    check_few(coins_of(purses), len(purses))
    layer = {purses: (0, (purses,))}
    for place, debt in enumerate(row):
        layer = cheapest_ways(layer, debt)
        if len(layer) == 0:
            return Halted(place)
    moved, splits = min(layer.values())
    return PaidRow(moved, splits)


def cheapest_ways(layer, debt):
    """For each way of a debt from a layer's splits, the fewest coins moved up to it, and the splits up to it."""
    lots = {}
    after = {}
    for purses, (moved, splits) in layer.items():
        for way in ways_in(purses, debt, lots):
            more = moved + moved_coins(purses, way)
            if way not in after or more < after[way][0]:
                after[way] = (more, splits + (way,))
    return after
