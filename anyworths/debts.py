"""Debts: their check, all of them, and the amounts that can be paid ([5.1], [5.5])."""

from anyworths.errors import BadDebt
from anyworths.lots import sums_of
from anyworths.pools import are_numbers, check_amount, is_row, is_whole
from anyworths.splits import check_purses


def check_debt(split, debt):
    """A debt of a split as a tuple ([5.1])."""
    return debt_at(sums_in(check_purses(split)), debt)


def sums_in(purses):
    """The worths of purses that are checked."""
    return tuple([sum(purse) for purse in purses])


def debt_at(worths, debt):
    """A debt among persons of these worths as a tuple."""
    if not is_row(debt, 3, 3) or not are_numbers(debt):
        raise BadDebt("debt")
    debtor, creditor, amount = debt
    check_couple(len(worths), debtor, creditor)
    if not 1 <= amount <= worths[debtor]:
        raise BadDebt("amount")
    return tuple(debt)


def check_couple(people, debtor, creditor):
    """Refuses what is not two unlike persons."""
    if not is_couple(people, debtor, creditor):
        raise BadDebt("persons")


def is_couple(people, one, other):
    """Whether two things are two unlike ones of so many people."""
    return is_whole(one, 0, people - 1) and is_whole(other, 0, people - 1) and one != other


def check_most(most):
    """The greatest amount of a debt, or None ([5.1])."""
    return None if most is None else check_amount(most, 1)


def couples_of(people):
    """All couples (debtor, creditor) of so many people, ascending."""
    return [(debtor, creditor) for debtor in range(people) for creditor in range(people) if debtor != creditor]


def bounded(amount, most):
    """The amount, or the greatest one if that is less."""
    return amount if most is None else min(amount, most)


def all_debts(split, most=None):
    """All debts of a split with an amount up to most, ascending ([5.1])."""
    worths = sums_in(check_purses(split))
    check_most(most)
    for debtor, creditor in couples_of(len(worths)):
        for amount in range(1, bounded(worths[debtor], most) + 1):
            yield (debtor, creditor, amount)


def count_debts(split, most=None):
    """How many debts a split has ([5.1])."""
    worths = sums_in(check_purses(split))
    check_most(most)
    return sum([bounded(worth, most) for worth in worths]) * (len(worths) - 1)


def paid_amounts(split, debtor, creditor):
    """The amounts that the debtor can pay to the creditor, ascending ([5.5])."""
    purses = check_purses(split)
    check_couple(len(purses), debtor, creditor)
    return paid_in(purses, debtor, creditor)


def paid_in(purses, debtor, creditor):
    """What paid_amounts returns, for arguments that are checked."""
    held = sum(purses[creditor])
    return tuple([amount - held for amount in sums_of(purses[debtor] + purses[creditor]) if amount > held])


def unpaid_ranges(split, debtor, creditor):
    """The other amounts up to the debtor's worth, as ascending couples (low, high) ([5.5])."""
    purses = check_purses(split)
    check_couple(len(purses), debtor, creditor)
    return tuple(unpaid_in(purses, debtor, creditor, None))


def unpaid_in(purses, debtor, creditor, most):
    """The couples of unpaid_ranges up to the greatest amount, for arguments that are checked."""
    ranges = []
    low = 1
    # The debtor's whole worth can always be paid, so no amount is left behind the last one paid.
    for amount in paid_in(purses, debtor, creditor):
        high = bounded(amount - 1, most)
        if low <= high:
            ranges.append((low, high))
        low = amount + 1
    return ranges


def unpaid_debts(split, most=None):
    """The debts of all_debts that have no way, in their order ([5.5])."""
    purses = check_purses(split)
    check_most(most)
    for debtor, creditor in couples_of(len(purses)):
        for low, high in unpaid_in(purses, debtor, creditor, most):
            for amount in range(low, high + 1):
                yield (debtor, creditor, amount)


def count_unpaid(split, most=None):
    """How many debts have no way ([5.5])."""
    purses = check_purses(split)
    return unpaid_of(purses, check_most(most))


def unpaid_of(purses, most):
    """What count_unpaid returns, for arguments that are checked."""
    count = 0
    for debtor, creditor in couples_of(len(purses)):
        count = count + sum([high - low + 1 for low, high in unpaid_in(purses, debtor, creditor, most)])
    return count
