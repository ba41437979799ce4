"""Whether every debt of one person to another can be paid ([5.6], [5.7])."""

from anyworths.debts import check_couple, couples_of, unpaid_debts
from anyworths.splits import check_purses


def greatest_unpaid(split, debtor, creditor):
    """The greatest amount that the debtor cannot pay to the creditor, or None ([5.6])."""
    purses = check_purses(split)
    check_couple(len(purses), debtor, creditor)
    return unpaid_by(purses, debtor, creditor)


def unpaid_by(purses, debtor, creditor):
    """What greatest_unpaid returns, for arguments that are checked."""
    worth = sum(purses[debtor])
    ahead = 0
    for coin in sorted(purses[debtor] + purses[creditor]):
        if ahead < worth and coin > ahead + 1:
            return worth - ahead - 1
        ahead = ahead + coin
    return None


def pays_every(split, debtor, creditor):
    """Whether the debtor can pay every amount to the creditor ([5.6])."""
    return greatest_unpaid(split, debtor, creditor) is None


def free_pairs(split):
    """All couples (debtor, creditor) whose debts can all be paid, ascending ([5.6])."""
    purses = check_purses(split)
    couples = couples_of(len(purses))
    return tuple([(debtor, creditor) for debtor, creditor in couples if unpaid_by(purses, debtor, creditor) is None])


def pays_all(split):
    """None if every debt of a split can be paid, otherwise the first that cannot ([5.6])."""
    for debt in unpaid_debts(split):
        return debt
    return None


def least_aid(split, debtor, creditor):
    """The fewest coins for the creditor that let the debtor pay every amount ([5.7])."""
    purses = check_purses(split)
    check_couple(len(purses), debtor, creditor)
    worth = sum(purses[debtor])
    put = []
    ahead = 0
    for coin in sorted(purses[debtor] + purses[creditor]):
        while coin > ahead + 1 and ahead < worth:
            put.append(ahead + 1)
            ahead = ahead + put[-1]
        ahead = ahead + coin
    return tuple(put)
