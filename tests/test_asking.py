"""9.10 and 9.11: questions."""

import unittest
from functools import cache
from itertools import product

from anyworths.asking import Found, best_question, fewest_questions, find_out
from anyworths.errors import BadPool, BadSeen, BadWish, CannotAnswer, CannotGuess, TooMany
from anyworths.guessing import guesses_now
from tests.roads import Case, at_once, has_list, listed, splits_in_order, worths_by_purses
from tests.test_bands import JUST, MANY
from tests.test_guessing import EXAMPLE, guesses_by_search, known
from tests.test_seeing import SEEN

COIN = 10 ** 9


@cache
def guessed():
    """Pools, worths and seens that have guesses, with the guesses now."""
    rows = []
    for pool, worths, seens in known():
        rows.append((pool, worths, seens, tuple(now for _, now in guesses_by_search(pool, worths, seens))))
    for pool, people in (((1, 1, 2, 2, 3), 3), ((1, 2, 3, 4, 5), 2), ((1, 1, 2, 3, 4, 5), 2), ((2, 2, 3, 3, 5), 3)):
        for worths in sorted({worths_by_purses(split) for split in splits_in_order(pool, people)})[::3]:
            rows.append((pool, worths, (), tuple(now for _, now in guesses_by_search(pool, worths, ()))))
    return [row for row in rows if row[3]]


def questions(pool, people):
    return [
        (person, coin, count) for person in range(people) for coin in sorted(set(pool))
        for count in range(1, pool.count(coin) + 1)
    ]


def answered(split, question):
    person, coin, count = question
    return sum(1 for other in split[person] if other == coin) >= count


def best_by_search(pool, rows):
    """The first of the questions with the least greater side, or None."""
    if len(rows) == 1:
        return None
    sides = {
        question: max(sum(answered(split, question) == truth for split in rows) for truth in (True, False))
        for question in questions(pool, len(rows[0]))
    }
    return min(question for question in sides if sides[question] == min(sides.values()))


@cache
def is_enough(pool, rows, most):
    """Whether some way of asking finds each of the splits with at most so many questions."""
    if len(rows) == 1:
        return True
    if most == 0:
        return False
    for question in questions(pool, len(rows[0])):
        sides = [tuple(split for split in rows if answered(split, question) == truth) for truth in (True, False)]
        if all(sides) and all(is_enough(pool, side, most - 1) for side in sides):
            return True
    return False


class Best(Case):
    def test_the_least_greater_side(self):
        asked = 0
        for pool, worths, seens, rows in guessed():
            told = best_question(list(pool)[::-1], list(worths), listed(seens))
            self.same(told, best_by_search(pool, rows))
            asked += told is not None
        self.assertGreater(asked, 50)

    def test_some_questions(self):
        self.assertIsNone(best_question(*EXAMPLE))
        self.same(best_question([2, 1, 1], [2, 2], []), (0, 1, 1))
        self.assertIsNone(best_question((), (0,), ()))
        self.assertIsNone(best_question((1, 1), (1, 1), ()))


class Out(Case):
    def test_the_split_that_is_thought_of_is_found(self):
        longest = 0
        for pool, worths, seens, rows in guessed():
            for thought in rows:
                calls = []

                def answer(question):
                    calls.append(question)
                    return answered(thought, question)

                told = find_out(list(pool)[::-1], list(worths), listed(seens), answer)
                self.same(told, Found(tuple((question, answered(thought, question)) for question in calls), thought))
                self.assertLess(len(calls), len(rows))
                left = rows
                for question in calls:
                    self.assertFalse(has_list(question))
                    self.assertEqual(question, best_by_search(pool, left))
                    left = tuple(split for split in left if answered(split, question) == answered(thought, question))
                self.assertEqual(left, (thought,))
                longest = max(longest, len(calls))
        self.assertGreater(longest, 2)

    def test_any_answers_lead_to_a_guess_that_has_them(self):
        for pool, worths, seens, rows in guessed():
            for pattern in product((True, False), repeat=3):
                calls = []

                def answer(question):
                    calls.append(question)
                    return pattern[(len(calls) - 1) % 3]

                told = find_out(pool, worths, seens, answer)
                self.assertIn(told.purses, rows)
                self.assertEqual([question for question, _ in told.asked], calls)
                for at, (question, truth) in enumerate(told.asked):
                    self.assertIs(truth, pattern[at % 3])
                    self.assertIs(answered(told.purses, question), truth)

    def test_wrong_answers(self):
        for wrong in (None, 1, 0, "True", (), (True,), 1.0, [False], Found):
            self.fails(CannotAnswer, (0,), find_out, (1, 1, 2), (2, 2), (), lambda question: wrong)
        pool, worths = (1, 2, 3, 4, 5, 6, 7, 8), (18, 18)
        self.assertGreater(len(guesses_now(pool, worths, ())), 8)
        places = []
        for first in (True, False):
            calls = []

            def answer(question):
                calls.append(question)
                return first if len(calls) == 1 else 1

            with self.assertRaises(CannotAnswer) as caught:
                find_out(pool, worths, (), answer)
            self.assertEqual(len(calls), caught.exception.place + 1)
            places.append(caught.exception.place)
        self.assertEqual(places, [1, 1])

    def test_what_an_answer_raises_is_raised(self):
        def answer(question):
            raise KeyError(question)

        with self.assertRaises(KeyError):
            find_out((1, 1, 2), (2, 2), (), answer)
        # One guess needs no question.
        self.same(find_out(*EXAMPLE, answer), Found((), ((1,), (1, 2))))


class Fewest(Case):
    def test_some_way_of_asking_is_enough_and_less_is_not(self):
        found = {}
        for pool, worths, seens, rows in guessed():
            if len(rows) > 5:
                self.fails(TooMany, (5,), fewest_questions, pool, worths, seens)
                found["many"] = True
                continue
            told = fewest_questions(list(pool)[::-1], list(worths), listed(seens))
            self.same(told, told)
            self.assertTrue(is_enough(pool, rows, told))
            self.assertFalse(told > 0 and is_enough(pool, rows, told - 1))
            found[len(rows), told] = True
        self.assertIn("many", found)
        self.assertLessEqual({(1, 0), (2, 1), (3, 2), (4, 2), (5, 3)}, set(found))

    def test_questions_that_do_not_part_evenly(self):
        # Of all rows of four guesses some need three questions.
        counts = {}
        for pool in ((1, 2, 3, 3, 4, 5), (1, 1, 2, 2, 3, 3), (1, 1, 1, 2, 2, 3), (2, 2, 3, 3, 4)):
            for people in (2, 3):
                splits = splits_in_order(pool, people)
                if len(splits) > 400:
                    continue
                for worths in {worths_by_purses(split) for split in splits}:
                    rows = tuple(split for split in splits if worths_by_purses(split) == worths)
                    if len(rows) <= 5:
                        told = fewest_questions(pool, worths, ())
                        self.assertTrue(is_enough(pool, rows, told))
                        self.assertFalse(told > 0 and is_enough(pool, rows, told - 1))
                        counts[len(rows)] = True
        self.assertIn(5, counts)

    def test_one_guess(self):
        self.assertEqual(fewest_questions(*EXAMPLE), 0)
        self.assertEqual(fewest_questions((), (0, 0), ()), 0)
        self.assertEqual(fewest_questions((1, 1, 2), (2, 2), ()), 1)


class Wrong(Case):
    def test_the_errors_in_their_order(self):
        functions = (best_question, lambda *told: find_out(*told, None), fewest_questions)
        for function in functions:
            self.fails(BadPool, (0, "coin"), function, [0], None, None)
            self.fails(BadWish, (0, "many"), function, [1, 2], None, None)
            self.fails(BadWish, (2, "sum"), function, [1, 2], (1, 1), None)
            self.fails(BadSeen, (0, "many"), function, [1, 2], (1, 2), None)
            self.fails(BadSeen, (0, "persons"), function, [1, 2], (3,), (SEEN,))
            for pool, people in MANY:
                worths = (sum(pool),) + (0,) * (people - 1)
                self.fails(TooMany, (400,), function, pool, worths, ())
                self.fails(TooMany, (400,), function, pool, worths, ((1, 0, (1,), ()),))
            for pool, worths, seens in (((2, 2), (3, 1), ()), ((1, 1), (1, 1), (SEEN,))):
                self.fails(CannotGuess, (), function, pool, worths, seens)

    def test_just_four_hundred_splits_are_answered_at_once(self):
        with at_once():
            for pool, people in JUST:
                wishes = {}
                for split in splits_in_order(pool, people) if len(pool) < 7 else ():
                    wishes.setdefault(worths_by_purses(split), []).append(split)
                for worths, rows in list(wishes.items())[::9]:
                    told = find_out(pool, worths, (), lambda question: answered(rows[-1], question))
                    self.assertEqual(told.purses, rows[-1])
            self.assertIsNone(best_question((COIN,) * 12, (5 * COIN, 7 * COIN), ()))


if __name__ == "__main__":
    unittest.main()
