"""Ways of paying a debt, and the payments that lead to them ([5.2] to [5.4])."""

from anyworths.debts import check_debt, paid_in
from anyworths.errors import BadPayment, BadSplit, BadWay
from anyworths.lots import beyond, is_within, lot_with, lots_in, rest_of
from anyworths.pools import check_pool
from anyworths.splits import check_purses, coins_of


class Payment:
    """The lot that the debtor hands over, and the one that the creditor hands back."""

    def __init__(self, over, back):
        self.over = over
        self.back = back

    def __eq__(self, other):
        return isinstance(other, Payment) and self.over == other.over and self.back == other.back


def ways_of(split, debt):
    """All ways of paying a debt, in the order of the creditor's purse ([5.3])."""
    purses = check_purses(split)
    told = check_debt(purses, debt)
    yield from ways_in(purses, told, {})


def ways_in(purses, debt, lots):
    """The list of what ways_of yields; lots keeps, for debts of one sum, what the creditor may own."""
    debtor, creditor, amount = debt
    coins = tuple(sorted(purses[debtor] + purses[creditor]))
    if coins not in lots:
        wanted = sum(purses[creditor]) + amount
        lots[coins] = [lot for lot in lots_in(coins) if sum(lot) == wanted]
    return [with_purses(purses, debtor, rest_of(coins, lot), creditor, lot) for lot in lots[coins]]


def with_purses(purses, one, coins, other, others):
    """The split in which the one has these coins, and the other one the others."""
    changed = list(purses)
    changed[one] = coins
    changed[other] = others
    return tuple(changed)


def first_way(split, debt):
    """The first way of paying a debt, or None ([5.3])."""
    for way in ways_of(split, debt):
        return way
    return None


def can_pay(split, debt):
    """Whether there is a way of paying a debt ([5.3])."""
    purses = check_purses(split)
    debtor, creditor, amount = check_debt(purses, debt)
    return amount in paid_in(purses, debtor, creditor)


def count_ways(split, debt):
    """How many ways of paying a debt there are ([5.3])."""
    return len(list(ways_of(split, debt)))


def way_fault(split, debt, paid):
    """None if a split is a way of paying a debt, otherwise the first word that applies ([5.3])."""
    purses = check_purses(split)
    told = check_debt(purses, debt)
    try:
        after = check_purses(paid)
    except BadSplit:
        return "purses"
    return way_word(purses, told, after)


def way_word(purses, debt, after):
    """What way_fault returns, for arguments that are checked."""
    debtor, creditor, amount = debt
    if len(after) != len(purses):
        return "people"
    if coins_of(after) != coins_of(purses):
        return "pool"
    if after != with_purses(purses, debtor, after[debtor], creditor, after[creditor]):
        return "others"
    if sum(after[debtor]) != sum(purses[debtor]) - amount:
        return "worths"
    return None


def payment_of(split, debt, paid):
    """The clean payment that leads to a way ([5.4])."""
    purses = check_purses(split)
    debtor, creditor, _ = check_debt(purses, debt)
    word = way_fault(purses, debt, paid)
    if word is not None:
        raise BadWay(word)
    after = check_purses(paid)
    return clean_payment(purses, debtor, after)


def clean_payment(purses, debtor, after):
    """The payment by which only this debtor's purse and the creditor's come to be as they are after it."""
    return Payment(beyond(purses[debtor], after[debtor]), beyond(after[debtor], purses[debtor]))


def after_payment(split, debt, over, back):
    """The way to which a payment leads ([5.4])."""
    purses = check_purses(split)
    debtor, creditor, amount = check_debt(purses, debt)
    given = check_pool(over)
    if not is_within(purses[debtor], given):
        raise BadPayment("over")
    returned = check_pool(back)
    if not is_within(purses[creditor], returned):
        raise BadPayment("back")
    if sum(given) != sum(returned) + amount:
        raise BadPayment("amount")
    return swapped(purses, (debtor, creditor, given, returned))


def swapped(purses, told):
    """The split behind (one, other, lot, back): the lot goes from one to other, back the other way."""
    one, other, lot, back = told
    coins = tuple(sorted(rest_of(purses[one], lot) + back))
    others = tuple(sorted(rest_of(purses[other], back) + lot))
    return with_purses(purses, one, coins, other, others)


def exact_payment(split, debt):
    """The first lot of the debtor's purse with the amount as its sum, or None ([5.4])."""
    purses = check_purses(split)
    debtor, _, amount = check_debt(purses, debt)
    return lot_with(purses[debtor], amount)
