"""Rows of debts that are paid one after another ([5.8] to [5.10])."""

from anyworths.debts import debt_at, sums_in
from anyworths.debttext import MOST_DEBTS
from anyworths.errors import BadDebt, BadDebts, BadSplit, TooMany
from anyworths.payments import way_fault, way_word, ways_in, with_purses
from anyworths.pools import are_numbers, is_row
from anyworths.searching import MOST_LISTED
from anyworths.splits import check_purses


class Played:
    """A play of a row of debts."""

    def __init__(self, splits):
        self.splits = splits

    def __eq__(self, other):
        return isinstance(other, Played) and self.splits == other.splits


class Blocked:
    """The layers that show that a row of debts has no play."""

    def __init__(self, layers):
        self.layers = layers

    def __eq__(self, other):
        return isinstance(other, Blocked) and self.layers == other.layers


class Unpaid:
    """A play of the first debts, and the next debt, which has no way."""

    def __init__(self, splits, debt):
        self.splits = splits
        self.debt = debt

    def __eq__(self, other):
        return isinstance(other, Unpaid) and self.splits == other.splits and self.debt == other.debt


def check_debts(split, debts):
    """A row of debts of a split as a tuple of tuples ([5.8])."""
    return row_from(check_purses(split), debts)[0]


def row_from(purses, debts):
    """The row of debts as a tuple of tuples, and the worths behind them."""
    if not is_row(debts, 0, MOST_DEBTS):
        raise BadDebts(0, "many")
    worths = sums_in(purses)
    row = []
    for place, debt in enumerate(debts):
        try:
            told = debt_at(worths, debt)
        except BadDebt as bad:
            raise BadDebts(place, bad.what) from None
        worths = worths_behind(worths, told)
        row.append(told)
    return tuple(row), worths


def worths_behind(worths, debt):
    """The worths behind a debt that is paid."""
    debtor, creditor, amount = debt
    after = list(worths)
    after[debtor] = after[debtor] - amount
    after[creditor] = after[creditor] + amount
    return tuple(after)


def worths_after(split, debts):
    """The worths behind a row of debts ([5.8])."""
    return row_from(check_purses(split), debts)[1]


def counted_layers(purses, row):
    """The layers of a row of debts ([5.9]): dicts of how many plays lead to each split."""
    layers = [{purses: 1}]
    for debt in row:
        if len(layers[-1]) > 0:
            layers.append(counted_ways(layers[-1], debt))
    return layers


def counted_ways(layer, debt):
    """How many plays lead to each way of a debt from a layer's splits."""
    debtor, creditor, amount = debt
    # Splits that are alike when the debtor holds the coins of both have the same ways, and others have none in common.
    together = {}
    for purses, plays in layer.items():
        # This is the same for all, since all splits of a layer have the same worths.
        wanted = sum(purses[creditor]) + amount
        pooled = with_purses(purses, debtor, tuple(sorted(purses[debtor] + purses[creditor])), creditor, ())
        together[pooled] = together.get(pooled, 0) + plays
    lots = {}
    after = {}
    for pooled, plays in together.items():
        for way in ways_in(pooled, (debtor, creditor, wanted), lots):
            after[way] = plays
        if len(after) > MOST_LISTED:
            raise TooMany(MOST_LISTED)
    return after


def play_to(layers, row, last):
    """A play of the first debts of a row that ends with a split of the layer behind them."""
    play = [last]
    for paid in range(len(row) - 1, -1, -1):
        before = [purses for purses in sorted(layers[paid]) if way_word(purses, row[paid], play[-1]) is None]
        play.append(before[0])
    return tuple(play[::-1])


def play_row(split, debts):
    """A play of a row of debts, or Blocked ([5.9])."""
    purses = check_purses(split)
    row, _ = row_from(purses, debts)
    layers = counted_layers(purses, row)
    if len(layers[-1]) == 0:
        return Blocked(tuple([tuple(sorted(layer)) for layer in layers]))
    return Played(play_to(layers, row, sorted(layers[-1])[0]))


def count_plays(split, debts):
    """How many plays a row of debts has ([5.9])."""
    purses = check_purses(split)
    row, _ = row_from(purses, debts)
    return sum(counted_layers(purses, row)[-1].values())


def most_paid(split, debts):
    """How many debts, from the first on, can be paid ([5.9])."""
    purses = check_purses(split)
    row, _ = row_from(purses, debts)
    return len([layer for layer in counted_layers(purses, row) if len(layer) > 0]) - 1


def worst_play(split, debts):
    """A play of as few debts as can be that comes to a debt without a way, or None ([5.9])."""
    purses = check_purses(split)
    row, _ = row_from(purses, debts)
    layers = counted_layers(purses, row)
    paid, last = first_stuck(layers, row)
    if last is None:
        return None
    return Unpaid(play_to(layers, row[:paid], last), row[paid])


def first_stuck(layers, row):
    """How many debts are paid ahead of the first one that has no way, and a split from which it has none."""
    for paid, debt in enumerate(row):
        lots = {}
        for purses in sorted(layers[paid]):
            if len(ways_in(purses, debt, lots)) == 0:
                return paid, purses
    return len(row), None


def played_fault(split, debts, played):
    """None if a Played is a play of a row of debts, otherwise the first word that applies ([5.10])."""
    purses = check_purses(split)
    row, _ = row_from(purses, debts)
    if not is_row(played.splits, len(row) + 1, len(row) + 1):
        return "many"
    return play_word(purses, row, played.splits)


def play_word(purses, row, splits):
    """What is wrong with splits that shall be a play of the first debts of a row, or None."""
    try:
        begin = check_purses(splits[0])
    except BadSplit:
        return "begin"
    if begin != purses:
        return "begin"
    for place in range(1, len(splits)):
        if way_fault(splits[place - 1], row[place - 1], splits[place]) is not None:
            return "step"
    return None


def unpaid_fault(split, debts, unpaid):
    """None if an Unpaid is a right result of worst_play, otherwise the first word that applies ([5.10])."""
    purses = check_purses(split)
    row, _ = row_from(purses, debts)
    if not is_row(unpaid.splits, 1, len(row)):
        return "many"
    word = play_word(purses, row, unpaid.splits)
    if word is not None:
        return word
    paid = len(unpaid.splits) - 1
    if not is_same_debt(unpaid.debt, row[paid]):
        return "debt"
    if len(ways_in(check_purses(unpaid.splits[paid]), row[paid], {})) > 0:
        return "paid"
    if first_stuck(counted_layers(purses, row), row)[0] < paid:
        return "fewer"
    return None


def is_same_debt(thing, debt):
    """Whether a thing is this tuple, with no True in the place of 1."""
    return isinstance(thing, tuple) and are_numbers(thing) and thing == debt
