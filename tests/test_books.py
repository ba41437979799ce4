"""6.6 and 6.7: books."""

import unittest
from itertools import product

from anyworths.books import Book, book_chooser, book_fault, book_of
from anyworths.errors import BadBook, BadDebt, BadSplit, TooMany
from anyworths.playing import play_against
from tests.roads import Case, asked_by_words, at_once, banded_by_worths, debts_by_worths, lasting_by_taking_away
from tests.roads import listed, ways_by_splits
from tests.test_bands import BANDS, MANY
from tests.test_lasting import MOSTS, POOLS

COIN = 10 ** 9
EXAMPLE = ((1, 1, 2), 3, (1, None), None)


def books():
    """All books of small pools, with the arguments that they are made of."""
    for (pool, people), band, most in product(POOLS + [((1, 1, 1, 2, 2), 3)], BANDS, MOSTS):
        yield pool, people, band, most, book_of(pool, people, band=band, most=most)


class Books(Case):
    def test_they_have_all_lasting_splits_and_the_first_lasting_ways(self):
        for pool, people, band, most, book in books():
            splits = lasting_by_taking_away(pool, people, band, most)
            if not splits:
                self.assertIsNone(book)
                continue
            answers = []
            for split in splits:
                answers.append(tuple(
                    [splits.index(way) for way in ways_by_splits(split, debt) if way in splits][0]
                    for debt in asked_by_words(split, band, most)
                ))
            bounds = (0, None) if band is None else band
            self.same(book, Book(pool, people, bounds, most, tuple(splits), tuple(answers)))
            self.assertIsNone(book_fault(book))

    def test_the_example(self):
        book = book_of([2, 1, 1], 3, band=[1, None])
        self.same(book, Book((1, 1, 2), 3, (1, None), None, (
            ((1,), (1,), (2,)), ((1,), (2,), (1,)), ((2,), (1,), (1,))), ((2, 1), (2, 0), (1, 0))))
        self.assertIsNone(book_of([2, 1, 1], 3))
        self.same(book_of((), 2), Book((), 2, (0, None), None, (((), ()),), ((),)))
        self.same(book_of((3,), 1, most=5), Book((3,), 1, (0, None), 5, (((3,),),), ((),)))

    def test_answers(self):
        for pool, people, band, most, book in books():
            if book is None:
                continue
            for split, row in zip(book.splits, book.answers):
                asked = asked_by_words(split, band, most)
                for debt, place in zip(asked, row):
                    self.same(book.answer_to(listed(split), list(debt)), book.splits[place])
                for debt in debts_by_worths(split):
                    if debt not in asked:
                        self.fails(BadBook, ("debt",), book.answer_to, split, debt)

    def test_errors_of_answers(self):
        book = book_of(*EXAMPLE[:2], band=EXAMPLE[2])
        self.fails(BadSplit, (0, "many"), book.answer_to, None, None)
        self.fails(BadSplit, (1, "purse"), book.answer_to, ((1,), (0,)), None)
        self.fails(BadBook, ("split",), book.answer_to, ((2,), (), (1, 1)), None)
        self.fails(BadBook, ("split",), book.answer_to, ((1,), (1,), (1,)), None)
        self.fails(BadDebt, ("debt",), book.answer_to, ((2,), (1,), (1,)), None)
        self.fails(BadDebt, ("persons",), book.answer_to, ((2,), (1,), (1,)), (0, 3, 1))
        self.fails(BadDebt, ("amount",), book.answer_to, ((2,), (1,), (1,)), (0, 1, 3))
        self.fails(BadBook, ("debt",), book.answer_to, ((2,), (1,), (1,)), (0, 1, 2))
        self.fails(BadBook, ("debt",), book.answer_to, ((2,), (1,), (1,)), (1, 2, 1))
        self.same(book.answer_to([[2], [1], [1]], [0, 1, 1]), ((1,), (2,), (1,)))

    def test_no_book_changes_by_its_method(self):
        book = book_of(*EXAMPLE[:2], band=EXAMPLE[2])
        before = dict(vars(book))
        book.answer_to([[2], [1], [1]], [0, 1, 1])
        self.fails(BadBook, ("split",), book.answer_to, ((2,), (), (1, 1)), None)
        self.assertEqual(vars(book), before)

    def test_a_book_with_other_answers_tells_those(self):
        # The band may be None, as check_band takes it.
        splits = (((), (1, 1, 2)), ((1,), (1, 2)))
        book = Book((1, 1, 2), 2, None, 1, splits, ((1,), (0, 0)))
        self.same(book.answer_to(splits[1], (0, 1, 1)), splits[0])

    def test_more_than_four_hundred_splits(self):
        for pool, people in MANY:
            self.fails(TooMany, (400,), book_of, pool, people)

    def test_great_coins_are_answered_at_once(self):
        with at_once():
            self.assertIsNone(book_of((COIN,), 2))
            book = book_of((COIN, COIN), 2, band=(COIN, COIN))
            self.same(book.answers, ((),))
            self.assertIsNone(book_of((COIN - 1, COIN), 3))
            whole = Book((COIN,), 2, None, None, (((COIN,), ()), ((), (COIN,))), ((1,), (0,)))
            self.assertEqual(book_fault(whole), "row")
            book = book_of((1, 1, 2, 4, 8, 16, 32, 64), 2)
            self.same(book.answer_to(book.splits[7], (1, 0, 5)), book.splits[book.answers[7][
                asked_by_words(book.splits[7], None, None).index((1, 0, 5))]])


class Choosers(Case):
    def test_they_return_the_answer_or_else_the_first_way(self):
        book = book_of((1, 1, 1, 2, 2), 3, band=(1, None))
        choose = book_chooser(book)
        others = 0
        for split in banded_by_worths((1, 1, 1, 2, 2), 3, None):
            for debt in debts_by_worths(split):
                ways = tuple(ways_by_splits(split, debt))
                if not ways:
                    continue
                asked = split in book.splits and debt in asked_by_words(split, (1, None), None)
                wanted = book.answer_to(split, debt) if asked else ways[0]
                self.same(choose(split, debt, ways), wanted)
                self.assertIn(wanted, ways)
                others += wanted != ways[0]
        self.assertGreater(others, 0)

    def test_they_pay_for_ever_what_is_asked(self):
        for pool, people, band in (((1, 1, 2), 3, (1, None)), ((1, 1, 1, 1, 2), 3, (1, None)), ((1, 2, 4), 2, None)):
            book = book_of(pool, people, band=band)
            turn = [0]

            def ask(now):
                asked = asked_by_words(now, band, None)
                turn[0] += 1
                return asked[turn[0] * 7 % len(asked)]

            told = play_against(book.splits[0], ask, book_chooser(book), 200)
            self.assertEqual(len(told.splits), 201)
            self.assertLessEqual(set(told.splits), set(book.splits))


class Judged(Case):
    def told(self, **changes):
        """The book of the example with other attributes."""
        book = book_of(*EXAMPLE[:2], band=EXAMPLE[2])
        values = dict(vars(book), **changes)
        return book_fault(Book(**values))

    def test_each_word(self):
        book = book_of(*EXAMPLE[:2], band=EXAMPLE[2])
        one, two, three = book.splits
        self.assertIsNone(book_fault(book))
        self.assertIsNone(self.told(pool=[2, 1, 1], band=[1, None], splits=listed(book.splits),
                                    answers=listed(book.answers)))
        for splits in (None, 3, (), [], "123", {}, (one, None), (one, two, ((2,), (1,), (True,))),
                       (one, two, ((2,), (1,))), (one, two, ((2,), (1,), (2,))), (one, two, ((2,), (1,), ())),
                       (one, two, ((2,), (), (1, 1))), (one, two, one), (one, two, three, ((2,), (1, 1), ()))):
            self.assertEqual(self.told(splits=splits), "splits")
        for answers in (None, 3, (), book.answers[:2], book.answers + ((),), "123"):
            self.assertEqual(self.told(answers=answers), "many")
        for row in (None, 0, (), (2,), (2, 1, 0), (2, 3), (2, -1), (2, True), (2, None), "21", (2, 1.0)):
            self.assertEqual(self.told(answers=(row,) + book.answers[1:]), "row")
            self.assertEqual(self.told(answers=book.answers[:2] + (row,)), "row")
        for row in ((2, 0), (0, 1), (1, 1), (1, 2)):
            self.assertEqual(self.told(answers=(row,) + book.answers[1:]), "step")
        # All words of one row come before those of the next.
        self.assertEqual(self.told(answers=((0, 0), None, None)), "step")
        self.assertEqual(self.told(answers=(None, (0, 0), None)), "row")

    def test_part_of_a_book_may_be_a_book(self):
        self.assertIsNone(book_fault(Book((1, 1), 2, None, 1, (((1, 1), ()), ((1,), (1,)), ((), (1, 1))), (
            (1,), (2, 0), (1,)))))
        self.assertEqual(book_fault(Book((1, 1), 2, None, 1, (((1, 1), ()), ((1,), (1,))), ((1,), (0, 0)))), "step")
        # At this split nothing is asked, so it lasts alone.
        self.assertIsNone(book_fault(Book((3, 3), 2, (3, 3), None, (((3,), (3,)),), ((),))))

    def test_all_splits_of_a_book_without_a_fault_are_lasting(self):
        for pool, people, band in (((1, 1), 2, None), ((1, 2), 2, None), ((2,), 2, None), ((2, 2), 2, (2, 2)),
                                   ((1, 1), 2, (1, None))):
            banded = banded_by_worths(pool, people, band)
            lasting = lasting_by_taking_away(pool, people, band, None)
            for chosen in product((False, True), repeat=len(banded)):
                splits = [split for split, one in zip(banded, chosen) if one]
                rows = [
                    product(range(len(splits)), repeat=len(asked_by_words(split, band, None))) for split in splits
                ]
                if len(splits) > 3:
                    continue
                good = False
                for answers in product(*rows):
                    good = good or book_fault(Book(pool, people, band, None, splits, answers)) is None
                closed = bool(splits) and all(
                    set(ways_by_splits(split, debt)) & set(splits)
                    for split in splits for debt in asked_by_words(split, band, None)
                )
                self.assertEqual(good, closed)
                if good:
                    self.assertLessEqual(set(splits), set(lasting))

    def test_at_most_four_hundred_splits(self):
        book = book_of((1, 2, 3, 4, 5, 5, 5, 5, 6, 6, 6, 6), 2, most=1)
        self.assertEqual(len(book.splits), 400)
        self.assertIsNone(book_fault(book))
        pool = (1, 2, 3, 4, 5, 6, 7, 8, 9)
        splits = banded_by_worths(pool, 2, None)
        self.assertEqual(book_fault(Book(pool, 2, None, 1, splits[:401], ())), "splits")
        self.assertEqual(book_fault(Book(pool, 2, None, 1, splits[:400], ())), "many")


if __name__ == "__main__":
    unittest.main()
