"""Texts of pools and splits ([1.9], [1.10])."""

from anyworths.errors import BadText
from anyworths.pools import GREATEST_COIN, MOST_COINS, MOST_PEOPLE, check_pool
from anyworths.splits import check_purses

MOST_DIGITS = 11


def words_in(text):
    """The words of a text ([1.9])."""
    if not isinstance(text, str):
        raise BadText(0, "text")
    return text.split(" ")


def number_in(word, low, high):
    """The number of a number word from low to high, None for any other word ([1.9])."""
    # isdigit alone takes digits of other scripts, too.
    if not (word.isascii() and word.isdigit() and len(word) <= MOST_DIGITS):
        return None
    if word.startswith("0") and word != "0":
        return None
    number = int(word)
    if low <= number <= high:
        return number
    return None


def coins_text(pool):
    """The text of a pool ([1.10])."""
    return purse_text(check_pool(pool))


def purse_text(coins):
    """What coins_text returns, for coins that are checked."""
    if len(coins) == 0:
        return "-"
    return " ".join([str(coin) for coin in coins])


def split_text(split):
    """The text of a split ([1.10])."""
    return " | ".join([purse_text(purse) for purse in check_purses(split)])


def parse_coins(text):
    """The pool that a text tells ([1.10])."""
    words = []
    for place, word in enumerate(words_in(text)):
        what = purse_fault(word, words, len(words))
        if what is not None:
            raise BadText(place, what)
        words.append(word)
    return purse_of(words)


def parse_split(text):
    """The split that a text tells ([1.10])."""
    words = words_in(text)
    purses = [[]]
    many = 0
    for place, word in enumerate(words):
        what = word_fault(word, purses, many)
        if what is not None:
            raise BadText(place, what)
        if word == "|":
            purses.append([])
        else:
            purses[-1].append(word)
        if word != "|" and word != "-":
            many = many + 1
    if len(purses[-1]) == 0:
        raise BadText(len(words), "empty")
    return tuple([purse_of(purse) for purse in purses])


def word_fault(word, purses, many):
    """What is wrong with a word behind these purses, which have so many coins, or None."""
    if word != "|":
        return purse_fault(word, purses[-1], many)
    if len(purses[-1]) == 0:
        return "empty"
    if len(purses) == MOST_PEOPLE:
        return "many"
    return None


def purse_fault(word, ahead, many):
    """What is wrong with a word behind these ones of its purse, and so many coins, or None."""
    if word == "-":
        return "alone" if len(ahead) > 0 else None
    coin = number_in(word, 1, GREATEST_COIN)
    if coin is None:
        return "word"
    if ahead == ["-"]:
        return "alone"
    if len(ahead) > 0 and coin < int(ahead[-1]):
        return "order"
    if many == MOST_COINS:
        return "many"
    return None


def purse_of(words):
    """The coins that the words of a purse tell."""
    return tuple([int(word) for word in words if word != "-"])
