"""Splits that are guessed from the pool, the worths and what was seen ([9.8], [9.9])."""

from anyworths.bands import few_splits
from anyworths.debts import debt_at, paid_in, sums_in
from anyworths.errors import CannotGuess
from anyworths.lots import lot_of
from anyworths.pools import check_pool, counted
from anyworths.seeing import check_seens, rows_behind
from anyworths.splits import coins_of
from anyworths.wishes import check_wish


class Unsure:
    """A guess that has a way of a debt, and one that has none."""

    def __init__(self, can, cannot):
        self.can = can
        self.cannot = cannot

    def __eq__(self, other):
        return isinstance(other, Unsure) and self.can == other.can and self.cannot == other.cannot


def all_guesses(pool, worths, seens):
    """All splits with these worths that bear what was seen, in the order of all_splits ([9.8])."""
    coins, numbers, told = check_known(pool, worths, seens)
    return tuple([row[0] for row in guessed_rows(coins, numbers, told)])


def guesses_now(pool, worths, seens):
    """The splits behind what was seen, for all guesses in their order ([9.8])."""
    coins, numbers, told = check_known(pool, worths, seens)
    return tuple([row[-1] for row in guessed_rows(coins, numbers, told)])


def check_known(pool, worths, seens):
    """The pool, the worths and the seens, as their checks return them."""
    coins = check_pool(pool)
    numbers = check_wish(worths, sum(coins))
    return coins, numbers, check_seens(len(numbers), seens)


def guessed_rows(coins, worths, seens):
    """For each guess the row of splits from the beginning to now."""
    splits = [purses for purses in few_splits(coins, len(worths)) if sums_in(purses) == worths]
    rows = [rows_behind(purses, seens) for purses in splits]
    return [row for row in rows if len(row) == len(seens) + 1]


def some_guesses(coins, worths, seens):
    """The list of the guesses now, of which there is at least one."""
    guesses = [row[-1] for row in guessed_rows(coins, worths, seens)]
    if len(guesses) == 0:
        raise CannotGuess()
    return guesses


def known_guesses(pool, worths, seens):
    """What some_guesses returns, for arguments that are not checked."""
    coins, numbers, told = check_known(pool, worths, seens)
    return some_guesses(coins, numbers, told)


def sure_coins(pool, worths, seens):
    """The lot that each person has in all guesses now ([9.9])."""
    guesses = known_guesses(pool, worths, seens)
    return tuple([lot_of([(worth, min(counts)) for worth, counts in row]) for row in counts_held(guesses)])


def most_coins(pool, worths, seens):
    """The coins that each person has in some guess now, each worth as often as in any ([9.9])."""
    guesses = known_guesses(pool, worths, seens)
    return tuple([lot_of([(worth, max(counts)) for worth, counts in row]) for row in counts_held(guesses)])


def counts_held(guesses):
    """For each person, couples of a worth and of how many coins of it the person has in each guess."""
    worths = [worth for worth, _ in counted(coins_of(guesses[0]))]
    persons = range(len(guesses[0]))
    return [[(worth, [purses[person].count(worth) for purses in guesses]) for worth in worths] for person in persons]


def sure_to_pay(pool, worths, seens, debt):
    """Whether a debt has a way from all guesses now, or from none, or Unsure ([9.9])."""
    coins, numbers, told = check_known(pool, worths, seens)
    debtor, creditor, amount = debt_at(worths_now(numbers, told), debt)
    guesses = some_guesses(coins, numbers, told)
    can = [purses for purses in guesses if amount in paid_in(purses, debtor, creditor)]
    cannot = [purses for purses in guesses if purses not in can]
    if len(can) == 0 or len(cannot) == 0:
        return len(cannot) == 0
    return Unsure(can[0], cannot[0])


def worths_now(worths, seens):
    """The worths behind what was seen."""
    now = list(worths)
    for giver, taker, over, back in seens:
        amount = sum(over) - sum(back)
        now[giver] = now[giver] - amount
        now[taker] = now[taker] + amount
    return tuple(now)
