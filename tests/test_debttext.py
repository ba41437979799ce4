"""1.11 and 1.12: texts of wishes and bare debts."""

import unittest
from itertools import permutations, product

from anyworths.debttext import debts_text, parse_debts, parse_wish, wish_text
from anyworths.errors import BadDebts, BadText, BadWish
from tests.roads import Case, wishes_by_bars

AMOUNT = 12 * 10 ** 9
NO_NUMBER_WORDS = ("", "a", "00", "01", "+1", "-1", "-", "1.0", "1_0", "\n1", "\u0661", "\u00b2", "1" * 12, "1" * 5000)
DEBTS = ((0, 1, 5), (2, 0, 17), (4, 3, AMOUNT), (1, 4, 1))


class Wishes(Case):
    def test_numbers_with_blanks_between_them(self):
        self.same(wish_text([3, 0, 12]), "3 0 12")
        self.same(wish_text((AMOUNT,)), "12000000000")
        self.same(parse_wish("3 0 12"), (3, 0, 12))
        self.same(parse_wish("12000000000"), (AMOUNT,))
        self.same(parse_wish("0 0 0 0 0"), (0,) * 5)

    def test_any_sum_is_written(self):
        self.same(wish_text([AMOUNT] * 5), " ".join(["12000000000"] * 5))
        self.same(parse_wish(" ".join(["12000000000"] * 5)), (AMOUNT,) * 5)

    def test_things_that_are_no_wish(self):
        for wish in (None, "1", [], (0,) * 6, {}):
            self.fails(BadWish, (0, "many"), wish_text, wish)
        self.fails(BadWish, (1, "number"), wish_text, [0, AMOUNT + 1, None])
        self.fails(BadWish, (0, "number"), wish_text, [True])

    def test_what_is_written_is_read_back(self):
        for people in range(1, 6):
            for wish in wishes_by_bars(6, people) + [(AMOUNT - 9, 10, 99, 100, 0)[:people]]:
                self.same(parse_wish(wish_text(list(wish))), wish)

    def test_words_that_are_no_amount(self):
        for word in NO_NUMBER_WORDS + ("12000000001", "99999999999", "1,"):
            self.fails(BadText, (0, "word"), parse_wish, word)
            self.fails(BadText, (0, "word"), parse_wish, word + " 1 " + word)
            self.fails(BadText, (1, "word"), parse_wish, "1 " + word + " 1")
            self.fails(BadText, (4, "word"), parse_wish, "1 1 1 1 " + word)
            self.fails(BadText, (2, "word"), parse_wish, "1 1 " + word + " 1 1 1")

    def test_a_sixth_word(self):
        self.fails(BadText, (5, "many"), parse_wish, "0 0 0 0 0 0")
        self.fails(BadText, (5, "many"), parse_wish, "0 0 0 0 0 x y")
        self.fails(BadText, (5, "many"), parse_wish, "0 0 0 0 0 ")

    def test_single_blanks(self):
        self.fails(BadText, (0, "word"), parse_wish, "")
        self.fails(BadText, (0, "word"), parse_wish, " 1")
        self.fails(BadText, (1, "word"), parse_wish, "1  1")
        self.fails(BadText, (1, "word"), parse_wish, "1 ")


class WrittenDebts(Case):
    def test_the_example_of_the_document(self):
        self.same(debts_text([[0, 1, 5], (2, 0, 17)]), "0 owes 1 5, 2 owes 0 17")
        self.same(parse_debts("0 owes 1 5, 2 owes 0 17"), ((0, 1, 5), (2, 0, 17)))

    def test_no_debts(self):
        self.same(debts_text(()), "-")
        self.same(debts_text([]), "-")
        self.same(parse_debts("-"), ())

    def test_what_is_written_is_read_back(self):
        for many in range(1, 5):
            for debts in permutations(DEBTS, many):
                self.same(parse_debts(debts_text([list(debt) for debt in debts])), debts)
        self.same(parse_debts(debts_text(DEBTS * 3)), DEBTS * 3)
        pairs = tuple((one, other, 10) for one, other in permutations(range(5), 2))
        self.same(parse_debts(debts_text(pairs[:12])), pairs[:12])
        self.same(parse_debts(debts_text(pairs[8:])), pairs[8:])

    def test_at_most_twelve_bare_debts(self):
        self.fails(BadDebts, (0, "many"), debts_text, [(0, 1, 5)] * 13)
        self.fails(BadDebts, (0, "many"), debts_text, None)
        self.fails(BadDebts, (0, "many"), debts_text, "")

    def test_the_first_thing_that_is_no_bare_debt(self):
        wrong = [None, "012", (), (0, 1), (0, 1, 5, 0), (0, 0, 5), (0, 1, 0), (0, 1, AMOUNT + 1), (5, 1, 5), (1, 5, 5)]
        wrong += [(-1, 0, 5), (0, -1, 5), (True, 0, 5), (0, True, 5), (0, 1, True), (False, 1, 5), (2, None, 5)]
        wrong += [(0, 1, "5"), ("0", 1, 5), [0, 1], {0: 1, 1: 1, 5: 1}]
        for thing in wrong:
            self.fails(BadDebts, (0, "debt"), debts_text, [thing])
            self.fails(BadDebts, (1, "debt"), debts_text, [(0, 1, 5), thing, None])
            self.fails(BadDebts, (11, "debt"), debts_text, [(0, 1, 5)] * 11 + [thing])


class ReadDebts(Case):
    def test_persons(self):
        for word in NO_NUMBER_WORDS + ("5", "10", "owes", "1,"):
            self.fails(BadText, (0, "person"), parse_debts, (word if word != "-" else "- 1") + " owes")
            self.fails(BadText, (2, "person"), parse_debts, "0 owes " + word)
            self.fails(BadText, (4, "person"), parse_debts, "0 owes 1 5, " + word + " owes 1 5")
            self.fails(BadText, (6, "person"), parse_debts, "0 owes 1 5, 2 owes " + word + " 5")
        self.fails(BadText, (0, "person"), parse_debts, "")
        self.fails(BadText, (0, "person"), parse_debts, "- ")
        self.fails(BadText, (0, "person"), parse_debts, "--")

    def test_the_same_person(self):
        for person in range(5):
            self.fails(BadText, (2, "same"), parse_debts, f"{person} owes {person} x")
            self.fails(BadText, (6, "same"), parse_debts, f"0 owes 1 5, {person} owes {person}")
            self.fails(BadText, (46, "same"), parse_debts, "0 owes 1 5, " * 11 + f"{person} owes {person} 5")

    def test_the_word_owes(self):
        for word in ("", "Owes", "owe", "owes,", "1", "-", "pays"):
            self.fails(BadText, (1, "owes"), parse_debts, f"0 {word} 0 x")
            self.fails(BadText, (5, "owes"), parse_debts, f"0 owes 1 5, 0 {word}")
            self.fails(BadText, (45, "owes"), parse_debts, "0 owes 1 5, " * 11 + f"0 {word} 1 5")

    def test_amounts(self):
        for word in NO_NUMBER_WORDS + ("0", "12000000001", "99999999999", "5,,", ",5", "owes"):
            for comma in ("", ","):
                self.fails(BadText, (3, "amount"), parse_debts, f"0 owes 1 {word}{comma}")
                self.fails(BadText, (7, "amount"), parse_debts, f"0 owes 1 5, 1 owes 2 {word}{comma} 7")
                self.fails(BadText, (47, "amount"), parse_debts, "0 owes 1 5, " * 11 + f"0 owes 1 {word}{comma}")

    def test_commas_between_debts(self):
        self.fails(BadText, (4, "comma"), parse_debts, "0 owes 1 5 2 owes 0 17")
        self.fails(BadText, (4, "comma"), parse_debts, "0 owes 1 5 x")
        self.fails(BadText, (4, "comma"), parse_debts, "0 owes 1 5 ")
        self.fails(BadText, (8, "comma"), parse_debts, "0 owes 1 5, 2 owes 0 17 0")
        self.fails(BadText, (44, "comma"), parse_debts, ", ".join(["0 owes 1 5"] * 11) + " 0 owes 1 5")

    def test_at_most_twelve_debts(self):
        twelve = ", ".join(["0 owes 1 5"] * 12)
        self.same(parse_debts(twelve), ((0, 1, 5),) * 12)
        self.fails(BadText, (48, "many"), parse_debts, twelve + ", 0 owes 1 5")
        self.fails(BadText, (48, "many"), parse_debts, twelve + " x")
        self.fails(BadText, (48, "many"), parse_debts, twelve + ", ")

    def test_texts_that_end_too_early(self):
        whole = "0 owes 1 5, 2 owes 0 17, 3 owes 4 1"
        words = whole.split(" ")
        for many in range(1, len(words)):
            self.fails(BadText, (many, "lacking"), parse_debts, " ".join(words[:many]))
        self.fails(BadText, (12, "lacking"), parse_debts, whole + ",")
        self.fails(BadText, (4, "lacking"), parse_debts, "0 owes 1 5,")
        self.fails(BadText, (48, "lacking"), parse_debts, ", ".join(["0 owes 1 5"] * 12) + ",")

    def test_just_the_texts_that_are_written_are_read(self):
        alphabet = ("0", "1", "owes", "5", "5,", "-", "")
        for words in product(alphabet, repeat=4):
            self.read_if_written(words)
        words = "0 owes 1 5, 1 owes 0 5".split(" ")
        for places in product(range(8), repeat=2):
            for others in product(alphabet, repeat=2):
                told = list(words)
                for place, other in zip(places, others):
                    told[place] = other
                self.read_if_written(told)
                self.read_if_written(told[:-1])

    def read_if_written(self, words):
        """The text of these words is read exactly if it is what is written for the debts it tells."""
        text = " ".join(words)
        debts = [debt.split(" ") for debt in text.split(", ")]
        fit = all(
            len(debt) == 4 and debt[1] == "owes" and {debt[0], debt[2]} == {"0", "1"} and debt[3] in ("1", "5")
            for debt in debts
        )
        if fit:
            self.assertEqual(debts_text(parse_debts(text)), text)
        else:
            with self.assertRaises(BadText) as caught:
                parse_debts(text)
            self.assertTrue(0 <= caught.exception.place <= len(words))


if __name__ == "__main__":
    unittest.main()
