"""1.9 and 1.10: texts of pools and splits."""

import unittest
from itertools import product

from anyworths.errors import BadText
from anyworths.splittext import coins_text, parse_coins, parse_split, split_text
from tests.roads import Case, pools_up_to, splits_by_owners

COIN = 10 ** 9
NO_WORDS = ("", "a", "01", "00", "+1", "-1", "--", "1.0", "1,", "\n1", "1\n", "\t", "\u0661", "\u00b2", "1_0")
NO_WORDS += ("||", "|-")
NO_COINS = NO_WORDS + ("0", str(COIN + 1), "99999999999", "100000000000", "1" * 5000)


class Written(Case):
    def test_coins(self):
        self.same(coins_text([2, 1, 1]), "1 1 2")
        self.same(coins_text(()), "-")
        self.same(coins_text([COIN] * 12), " ".join(["1000000000"] * 12))

    def test_splits(self):
        self.same(split_text([[1, 1], [2], []]), "1 1 | 2 | -")
        self.same(split_text([[3, 1]]), "1 3")
        self.same(split_text([[]] * 5), "- | - | - | - | -")

    def test_what_is_written_is_read_back(self):
        for pool in pools_up_to(4, 3) + [(COIN,) * 12, (1, COIN), (9, 10, 11)]:
            self.same(parse_coins(coins_text(pool[::-1])), pool)
        for people in range(1, 6):
            for pool in pools_up_to(3, 3) + [(9, 10, COIN)]:
                for split in splits_by_owners(pool, people):
                    self.same(parse_split(split_text(split)), split)


class ReadCoins(Case):
    def test_things_that_are_no_text(self):
        for thing in (None, True, 1, b"1", ["1"], ("1",), {}):
            self.fails(BadText, (0, "text"), parse_coins, thing)
            self.fails(BadText, (0, "text"), parse_split, thing)

    def test_words_that_are_no_coin(self):
        for word in NO_COINS + ("|",):
            self.fails(BadText, (0, "word"), parse_coins, word)
            self.fails(BadText, (0, "word"), parse_coins, word + " 1 " + word)
            self.fails(BadText, (1, "word"), parse_coins, "1 " + word + " 2")
            self.fails(BadText, (2, "word"), parse_coins, "1 2 " + word)
            self.fails(BadText, (1, "word"), parse_coins, "- " + word)

    def test_words_are_parted_by_single_blanks(self):
        self.fails(BadText, (0, "word"), parse_coins, "")
        self.fails(BadText, (0, "word"), parse_coins, " 1")
        self.fails(BadText, (1, "word"), parse_coins, "1 ")
        self.fails(BadText, (1, "word"), parse_coins, "1  2")
        self.fails(BadText, (0, "word"), parse_coins, "1\t2")

    def test_a_dash_stands_alone(self):
        self.same(parse_coins("-"), ())
        self.fails(BadText, (1, "alone"), parse_coins, "1 -")
        self.fails(BadText, (1, "alone"), parse_coins, "- -")
        self.fails(BadText, (1, "alone"), parse_coins, "- 1")
        self.fails(BadText, (2, "alone"), parse_coins, "1 2 - 1")

    def test_coins_ascend(self):
        self.same(parse_coins("1 1 2 1000000000"), (1, 1, 2, COIN))
        self.fails(BadText, (1, "order"), parse_coins, "2 1 0")
        self.fails(BadText, (2, "order"), parse_coins, "1 10 9")
        self.fails(BadText, (3, "order"), parse_coins, "1 2 2 1")

    def test_at_most_twelve_coins(self):
        self.same(parse_coins("7" + " 7" * 11), (7,) * 12)
        self.fails(BadText, (12, "many"), parse_coins, "7" + " 7" * 12)
        self.fails(BadText, (12, "order"), parse_coins, "7" + " 7" * 11 + " 6")
        self.fails(BadText, (12, "alone"), parse_coins, "7" + " 7" * 11 + " -")
        self.fails(BadText, (12, "word"), parse_coins, "7" + " 7" * 11 + " 0")
        self.fails(BadText, (12, "many"), parse_coins, "7" + " 7" * 12 + " x")


class ReadSplits(Case):
    def test_the_example_of_the_document(self):
        self.same(parse_split("1 1 | 2 | -"), ((1, 1), (2,), ()))

    def test_words_that_are_neither_coin_nor_bar_nor_dash(self):
        for word in NO_COINS:
            self.fails(BadText, (0, "word"), parse_split, word)
            self.fails(BadText, (0, "word"), parse_split, word + " | " + word)
            self.fails(BadText, (2, "word"), parse_split, "1 | " + word + " | 2")
            self.fails(BadText, (3, "word"), parse_split, "1 | 2 " + word)
            self.fails(BadText, (1, "word"), parse_split, "- " + word)

    def test_purses_without_a_word(self):
        self.fails(BadText, (0, "empty"), parse_split, "|")
        self.fails(BadText, (0, "empty"), parse_split, "| 1")
        self.fails(BadText, (2, "empty"), parse_split, "1 | | 0")
        self.fails(BadText, (2, "empty"), parse_split, "1 |")
        self.fails(BadText, (4, "empty"), parse_split, "1 | - |")
        self.fails(BadText, (8, "empty"), parse_split, "1 | 1 | 1 | 1 |")

    def test_at_most_five_purses(self):
        self.same(parse_split("1 | 1 | 1 | 1 | 1"), ((1,),) * 5)
        self.fails(BadText, (9, "many"), parse_split, "1 | 1 | 1 | 1 | 1 |")
        self.fails(BadText, (9, "many"), parse_split, "- | - | - | - | - | 0")
        self.fails(BadText, (8, "empty"), parse_split, "1 | 1 | 1 | 1 | |")

    def test_a_dash_stands_alone_in_its_purse(self):
        self.same(parse_split("- | - | 1"), ((), (), (1,)))
        self.fails(BadText, (1, "alone"), parse_split, "- - | 1")
        self.fails(BadText, (1, "alone"), parse_split, "1 - | 1")
        self.fails(BadText, (3, "alone"), parse_split, "1 | - 1 | x")
        self.fails(BadText, (3, "alone"), parse_split, "- | 2 -")

    def test_coins_ascend_within_their_purse(self):
        self.same(parse_split("2 2 | 1 3 | 1"), ((2, 2), (1, 3), (1,)))
        self.fails(BadText, (1, "order"), parse_split, "2 1 | 1")
        self.fails(BadText, (3, "order"), parse_split, "1 | 10 9 | 1")
        self.fails(BadText, (5, "order"), parse_split, "1 | - | 3 2 | x")

    def test_at_most_twelve_coins_in_the_text(self):
        six = "7 7 7 7 7 7"
        self.same(parse_split(six + " | - | " + six), ((7,) * 6, (), (7,) * 6))
        self.fails(BadText, (14, "many"), parse_split, six + " | " + six + " | 1")
        self.fails(BadText, (13, "many"), parse_split, six + " | " + six + " 7 x")
        self.fails(BadText, (13, "order"), parse_split, six + " | " + six + " 6")
        self.fails(BadText, (16, "many"), parse_split, six + " | " + six + " | - | 7")

    def test_just_the_texts_that_are_written_are_read(self):
        alphabet = ("", "-", "|", "0", "1", "2")
        for many in range(1, 6):
            for words in product(alphabet, repeat=many):
                text = " ".join(words)
                for read, write in ((parse_split, split_text), (parse_coins, coins_text)):
                    try:
                        told = read(text)
                    except BadText as error:
                        self.assertTrue(0 <= error.place <= many)
                        self.assertFalse(is_written(words, read is parse_split), text)
                    else:
                        self.assertEqual(write(told), text)
                        self.assertTrue(is_written(words, read is parse_split), text)


def is_written(words, bars):
    """Whether words are those of a text, told by its purses."""
    purses = " ".join(words).split(" | ") if bars else [" ".join(words)]
    for purse in purses:
        coins = purse.split(" ")
        if purse != "-" and not (set(coins) <= {"1", "2"} and coins == sorted(coins)):
            return False
    return len(purses) <= 5


if __name__ == "__main__":
    unittest.main()
