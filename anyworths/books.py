"""Books: what answers each asked debt for ever ([6.6], [6.7])."""

from anyworths.bands import asked_up_to, check_band, fits
from anyworths.debts import check_debt, check_most, sums_in
from anyworths.errors import BadBook, BadSplit
from anyworths.lasting import lasting_in
from anyworths.payments import way_word
from anyworths.pools import check_people, check_pool, is_row, is_whole
from anyworths.ranks import asked_rows
from anyworths.searching import MOST_LISTED
from anyworths.splits import check_purses, check_split


class Book:
    """Lasting splits, and for each of their asked debts the place of a way among them."""

    def __init__(self, pool, people, band, most, splits, answers):
        self.pool = pool
        self.people = people
        self.band = band
        self.most = most
        self.splits = splits
        self.answers = answers

    def __eq__(self, other):
        return (isinstance(other, Book) and self.pool == other.pool and self.people == other.people
                and self.band == other.band and self.most == other.most and self.splits == other.splits
                and self.answers == other.answers)

    def answer_to(self, split, debt):
        """The split that answers a debt ([6.6])."""
        purses = check_purses(split)
        if purses not in self.splits:
            raise BadBook("split")
        debtor, creditor, amount = check_debt(purses, debt)
        place = 0
        for one, other, greatest in asked_up_to(sums_in(purses), check_band(self.band), self.most):
            if (one, other) == (debtor, creditor) and amount <= greatest:
                return self.splits[self.answers[self.splits.index(purses)][place + amount - 1]]
            place = place + greatest
        raise BadBook("debt")


def book_of(pool, people, *, band=None, most=None):
    """The Book of all lasting splits, or None if there are none ([6.6])."""
    coins = check_pool(pool)
    check_people(people)
    bounds = check_band(band)
    check_most(most)
    splits = lasting_in(coins, people, bounds)
    if len(splits) == 0:
        return None
    # Among the lasting splits alone, each asked debt has ways, and the first is its first lasting one.
    answers = [tuple([ways[0] for _, ways in row]) for row in asked_rows(splits, bounds, most)]
    return Book(coins, people, bounds, most, splits, tuple(answers))


def book_chooser(book):
    """A chooser that returns the book's answer, or the first way if there is none ([6.6])."""
    def choose(split, debt, ways):
        try:
            return book.answer_to(split, debt)
        except BadBook:
            return ways[0]

    return choose


def book_fault(book):
    """None if all splits of a Book are lasting by its answers, otherwise the first word that applies ([6.7])."""
    coins = check_pool(book.pool)
    band = check_band(book.band)
    if not is_row(book.splits, 1, MOST_LISTED):
        return "splits"
    splits = []
    for split in book.splits:
        try:
            purses = check_split(coins, book.people, split)
        except BadSplit:
            return "splits"
        if not fits(sums_in(purses), band) or purses in splits:
            return "splits"
        splits.append(purses)
    if not is_row(book.answers, len(splits), len(splits)):
        return "many"
    for purses, row in zip(splits, book.answers):
        word = row_word(purses, row, splits, asked_up_to(sums_in(purses), band, book.most))
        if word is not None:
            return word
    return None


def row_word(purses, row, splits, asked):
    """What is wrong with a split's row of answers, or None."""
    count = sum([greatest for _, _, greatest in asked])
    if not is_row(row, count, count) or not all([is_whole(place, 0, len(splits) - 1) for place in row]):
        return "row"
    debts = [(debtor, creditor, amount) for debtor, creditor, most in asked for amount in range(1, most + 1)]
    for debt, place in zip(debts, row):
        if way_word(purses, debt, splits[place]) is not None:
            return "step"
    return None
