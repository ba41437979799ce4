"""Texts of wishes and bare debts ([1.11], [1.12])."""

from anyworths.errors import BadDebts, BadText
from anyworths.pools import GREATEST_AMOUNT, MOST_PEOPLE, is_row, is_whole
from anyworths.splittext import number_in, words_in
from anyworths.wishes import check_amounts

MOST_DEBTS = 12
GREATEST_PERSON = 4
WORDS_A_DEBT = 4


def wish_text(wish):
    """The text of a wish ([1.11])."""
    return " ".join([str(number) for number in check_amounts(wish)])


def parse_wish(text):
    """The wish that a text tells ([1.11])."""
    numbers = []
    for place, word in enumerate(words_in(text)):
        if place == MOST_PEOPLE:
            raise BadText(place, "many")
        number = number_in(word, 0, GREATEST_AMOUNT)
        if number is None:
            raise BadText(place, "word")
        numbers.append(number)
    return tuple(numbers)


def debts_text(debts):
    """The text of bare debts ([1.12])."""
    if not is_row(debts, 0, MOST_DEBTS):
        raise BadDebts(0, "many")
    for place, debt in enumerate(debts):
        if not is_bare_debt(debt):
            raise BadDebts(place, "debt")
    if len(debts) == 0:
        return "-"
    return ", ".join([f"{debt[0]} owes {debt[1]} {debt[2]}" for debt in debts])


def is_bare_debt(debt):
    """Whether a thing is a bare debt ([1.12])."""
    if not is_row(debt, 3, 3):
        return False
    debtor, creditor, amount = debt
    if not is_whole(debtor, 0, GREATEST_PERSON) or not is_whole(creditor, 0, GREATEST_PERSON):
        return False
    return debtor != creditor and is_whole(amount, 1, GREATEST_AMOUNT)


def parse_debts(text):
    """The bare debts that a text tells ([1.12])."""
    words = words_in(text)
    if words == ["-"]:
        return ()
    for place in range(len(words)):
        what = debt_fault(words, place)
        if what is not None:
            raise BadText(place, what)
    if len(words) % WORDS_A_DEBT != 0 or words[-1].endswith(","):
        raise BadText(len(words), "lacking")
    return tuple([debt_at(words, place) for place in range(0, len(words), WORDS_A_DEBT)])


def debt_fault(words, place):
    """What is wrong with the word at this place, if all words ahead are good, or None."""
    if place == MOST_DEBTS * WORDS_A_DEBT:
        return "many"
    word = words[place]
    part = place % WORDS_A_DEBT
    if part == 0 and place > 0 and not words[place - 1].endswith(","):
        return "comma"
    if part == 1:
        return "owes" if word != "owes" else None
    if part == 3:
        return "amount" if amount_in(word) is None else None
    if number_in(word, 0, GREATEST_PERSON) is None:
        return "person"
    if part == 2 and word == words[place - 2]:
        return "same"
    return None


def amount_in(word):
    """The amount of the last word of a debt, which may end with a comma, or None."""
    return number_in(word.removesuffix(","), 1, GREATEST_AMOUNT)


def debt_at(words, place):
    """The debt whose words begin at this place."""
    return int(words[place]), int(words[place + 2]), amount_in(words[place + 3])
