"""Debts that are paid by choosers, in a row or as they are asked ([5.11], [5.12])."""

from anyworths.debtrows import Played, Unpaid, row_from
from anyworths.debts import check_debt, unpaid_of
from anyworths.errors import BadChoice, BadSplit, BadTurns
from anyworths.payments import clean_payment, ways_in
from anyworths.pools import is_whole
from anyworths.splits import check_purses

MOST_TURNS = 400


def choose_first(split, debt, ways):
    """The first way ([5.11])."""
    return ways[0]


def choose_fewest_moved(split, debt, ways):
    """The first way with the fewest coins in the clean payment ([5.11])."""
    payments = [clean_payment(split, debt[0], way) for way in ways]
    return least_way(ways, [len(payment.over) + len(payment.back) for payment in payments])


def choose_most_ones(split, debt, ways):
    """The first way with the most ones with the debtor ([5.11])."""
    return least_way(ways, [-way[debt[0]].count(1) for way in ways])


def choose_evenest(split, debt, ways):
    """The first way with the least difference between the numbers of coins of both ([5.11])."""
    return least_way(ways, [abs(len(way[debt[0]]) - len(way[debt[1]])) for way in ways])


def choose_most_free(split, debt, ways):
    """The first way with the fewest debts that cannot be paid ([5.11])."""
    return least_way(ways, [unpaid_of(way, None) for way in ways])


def least_way(ways, measures):
    """The first way whose measure is the least."""
    return ways[measures.index(min(measures))]


def play_debts(split, debts, choose):
    """The play of a row of debts by a chooser, or Unpaid ([5.12])."""
    purses = check_purses(split)
    row, _ = row_from(purses, debts)
    splits = [purses]
    for debt in row:
        following = next_split(splits[-1], debt, choose, len(splits) - 1)
        if following is None:
            return Unpaid(tuple(splits), debt)
        splits.append(following)
    return Played(tuple(splits))


def play_against(split, ask, choose, turns):
    """The play by a chooser of debts that are asked one by one, or Unpaid ([5.12])."""
    purses = check_purses(split)
    if not is_whole(turns, 0, MOST_TURNS):
        raise BadTurns()
    splits = [purses]
    for paid in range(turns):
        asked = ask(splits[-1])
        if asked is None:
            break
        debt = check_debt(splits[-1], asked)
        following = next_split(splits[-1], debt, choose, paid)
        if following is None:
            return Unpaid(tuple(splits), debt)
        splits.append(following)
    return Played(tuple(splits))


def next_split(purses, debt, choose, paid):
    """The way that the chooser takes behind so many debts paid, or None if there is no way."""
    ways = tuple(ways_in(purses, debt, {}))
    if len(ways) == 0:
        return None
    return chosen_way(choose(purses, debt, ways), ways, paid)


def chosen_way(chosen, ways, paid):
    """What was chosen behind so many debts paid, if it is one of the ways."""
    try:
        way = check_purses(chosen)
    except BadSplit:
        raise BadChoice(paid) from None
    if way not in ways:
        raise BadChoice(paid)
    return way
