"""Debts that are paid with exchanges ahead ([7.6])."""

from anyworths.bands import few_splits
from anyworths.debts import bounded, check_debt, check_most, count_debts, couples_of, paid_in, sums_in
from anyworths.errors import BadExchange, BadSplit, TooMany
from anyworths.exchanges import after_exchanges, are_least
from anyworths.payments import way_fault, ways_in
from anyworths.pieces import led_to, piece_in, pieces_among
from anyworths.pools import check_people, check_pool
from anyworths.searching import MOST_LISTED
from anyworths.serving import failing_in
from anyworths.splits import check_purses, split_order


class PaidWith:
    """Exchanges, the split to which they lead, and a way of a debt from there."""

    def __init__(self, exchanges, purses, way):
        self.exchanges = exchanges
        self.purses = purses
        self.way = way

    def __eq__(self, other):
        return (isinstance(other, PaidWith) and self.exchanges == other.exchanges and self.purses == other.purses
                and self.way == other.way)


class Closed:
    """A piece from none of whose splits a debt has a way."""

    def __init__(self, piece):
        self.piece = piece

    def __eq__(self, other):
        return isinstance(other, Closed) and self.piece == other.piece


class NeverPaid:
    """A split, and a debt that cannot be paid from there with exchanges ahead."""

    def __init__(self, purses, debt):
        self.purses = purses
        self.debt = debt

    def __eq__(self, other):
        return isinstance(other, NeverPaid) and self.purses == other.purses and self.debt == other.debt


def paid_with(split, debt):
    """The fewest exchanges that lead to a way of paying a debt, or Closed ([7.6])."""
    purses = check_purses(split)
    told = check_debt(purses, debt)
    piece = piece_in(purses)
    ways = ways_from(piece, told)
    if len(ways) == 0:
        return Closed(piece)
    exchanges, there = led_to(purses, ways)
    return PaidWith(exchanges, there, ways[there][0])


def ways_from(piece, debt):
    """The ways of a debt from each split of a piece that has any."""
    lots = {}
    ways = {purses: ways_in(purses, debt, lots) for purses in piece}
    return {purses: ways[purses] for purses in piece if len(ways[purses]) > 0}


def paid_with_fault(split, debt, paid):
    """None if a PaidWith pays a debt, otherwise the first word that applies ([7.6])."""
    purses = check_purses(split)
    told = check_debt(purses, debt)
    try:
        there = after_exchanges(purses, paid.exchanges)
    except BadExchange:
        return "exchanges"
    if not all([are_least(lot, back) for _, _, lot, back in paid.exchanges]):
        return "exchanges"
    try:
        told_there = check_purses(paid.purses)
    except BadSplit:
        return "purses"
    if told_there != there:
        return "purses"
    return None if way_fault(there, told, paid.way) is None else "way"


def ways_with(split, debt):
    """All splits that are a way of a debt from some split of the piece, in the order of all_splits ([7.6])."""
    purses = check_purses(split)
    told = check_debt(purses, debt)
    yield from ways_behind(piece_in(purses), told)


def ways_behind(piece, debt):
    """The list of what ways_with yields, for the piece of the split."""
    ways = {way: True for row in ways_from(piece, debt).values() for way in row}
    return sorted(ways, key=split_order)


def unpaid_with(split, most=None):
    """The debts that cannot be paid with exchanges ahead, ascending ([7.6])."""
    purses = check_purses(split)
    if count_debts(purses, check_most(most)) > MOST_LISTED:
        raise TooMany(MOST_LISTED)
    return tuple(unpaid_from(piece_in(purses), most))


def unpaid_from(piece, most):
    """The debts that have no way from any split of a piece, ascending."""
    worths = sums_in(piece[0])
    unpaid = []
    for debtor, creditor in couples_of(len(worths)):
        paid = {amount: True for purses in piece for amount in paid_in(purses, debtor, creditor)}
        greatest = bounded(worths[debtor], most)
        unpaid.extend([(debtor, creditor, amount) for amount in range(1, greatest + 1) if amount not in paid])
    return unpaid


def always_paid(pool, people):
    """None if every debt of every split can be paid with exchanges ahead, otherwise NeverPaid ([7.6])."""
    coins = check_pool(pool)
    check_people(people)
    if len(failing_in(coins, people)) == 0:
        return None
    for piece in askable_pieces(coins, people):
        unpaid = unpaid_from(piece, None)
        if len(unpaid) > 0:
            return NeverPaid(piece[0], unpaid[0])
    return None


def askable_pieces(coins, people):
    """All pieces, in the order of their first splits, if neither splits nor debts are too many."""
    splits = few_splits(coins, people)
    if (people - 1) * sum(coins) > MOST_LISTED:
        raise TooMany(MOST_LISTED)
    return pieces_among(splits)
