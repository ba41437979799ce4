"""5.8 to 5.10: rows of debts."""

import random
import unittest

from anyworths.debtrows import Blocked, Played, Unpaid, check_debts, count_plays, most_paid, play_row, played_fault
from anyworths.debtrows import unpaid_fault, worst_play, worths_after
from anyworths.errors import BadDebts, TooMany
from anyworths.payments import ways_of
from tests.roads import Case, at_once, plays_by_search, pools_up_to, split_key, splits_in_order, ways_by_splits
from tests.roads import worths_by_purses

COIN = 10 ** 9
SPLIT = ((2,), (1,), (1,))
ROW = ((1, 2, 1), (0, 1, 1))


def random_rows():
    """Splits with rows of debts that can be asked there."""
    chance = random.Random(5)
    pools = [pool for pool in pools_up_to(5, 3) if len(pool) > 2]
    for _ in range(600):
        people = chance.choice((2, 3, 3, 4))
        split = chance.choice(splits_in_order(chance.choice(pools), people))
        debts, worths = [], list(worths_by_purses(split))
        for _ in range(chance.randint(0, 6)):
            debtor, creditor = chance.sample(range(people), 2)
            if worths[debtor] > 0:
                amount = chance.choice((1, 1, chance.randint(1, worths[debtor])))
                worths[debtor] -= amount
                worths[creditor] += amount
                debts.append((debtor, creditor, amount))
        yield split, tuple(debts)


ROWS = list(random_rows()) + [
    # Here a choice of ways comes to a debt without a way, and another one pays it and comes to a later one.
    (((1,), (4, 5), (2, 3)), ((2, 0, 2), (1, 0, 1), (1, 0, 6), (2, 1, 2))),
    (((2, 4), (), (1, 3, 3, 4)), ((2, 0, 3), (2, 1, 2), (2, 1, 5))),
    (((3, 4), (1, 3, 5), ()), ((1, 0, 5), (1, 2, 2))),
]
# Some layer of these has just 400 splits, and no layer has more.
JUST_ROWS = [
    (((1, 2, 5, 6, 7, 8, 9, 10, 11, 12, 13, 15), (), ()), ((0, 1, 67), (1, 2, 34))),
    (((2, 3, 4, 5, 6, 7, 9, 10, 11, 12, 13, 14), (), ()), ((0, 1, 62), (1, 2, 29))),
]
# Some layer of these has 401 splits.
MANY_ROWS = [
    (((2, 3, 4, 5, 6, 7, 9, 10, 11, 12, 13, 14), (), ()), ((0, 1, 66), (1, 2, 35))),
    (((1, 2, 3, 4, 6, 7, 8, 9, 10, 12, 14, 15), (), ()), ((0, 1, 62), (1, 2, 28))),
]


def layers_by_search(split, debts):
    """The layers, from the plays of the first debts."""
    layers = []
    for many in range(len(debts) + 1):
        layers.append(tuple(sorted({play[-1] for play in plays_by_search(split, debts[:many])})))
        if not layers[-1]:
            break
    return tuple(layers)


def fewest_paid(split, debts):
    """How few debts can be paid ahead of one that has no way, or None."""
    for many, debt in enumerate(debts):
        for play in plays_by_search(split, debts[:many]):
            if not ways_by_splits(play[-1], debt):
                return many
    return None


class Rows(Case):
    def test_check_debts_at_the_worths_that_debts_leave(self):
        self.same(check_debts([[2], [1], [1]], [[1, 2, 1], (0, 1, 1)]), ROW)
        self.same(check_debts(SPLIT, ()), ())
        self.same(check_debts(SPLIT, [(0, 1, 2), (1, 2, 3), (2, 0, 4)]), ((0, 1, 2), (1, 2, 3), (2, 0, 4)))
        self.fails(BadDebts, (0, "amount"), check_debts, SPLIT, [(1, 2, 2)])
        self.fails(BadDebts, (1, "amount"), check_debts, SPLIT, [(1, 2, 1), (1, 0, 1)])
        self.fails(BadDebts, (1, "persons"), check_debts, SPLIT, [(1, 2, 1), (0, 3, 1), None])
        self.fails(BadDebts, (0, "debt"), check_debts, SPLIT, [(1, 2, True), None])
        many = [(0, 1, 1), (1, 0, 1)] * 6
        self.same(check_debts(SPLIT, many), tuple(many))
        self.fails(BadDebts, (0, "many"), check_debts, SPLIT, many + [(0, 1, 1)])
        self.fails(BadDebts, (11, "debt"), check_debts, SPLIT, many[:11] + [None])

    def test_worths_after(self):
        self.same(worths_after(SPLIT, [[1, 2, 1], [0, 1, 1]]), (1, 1, 2))
        self.same(worths_after(SPLIT, []), (2, 1, 1))
        self.same(worths_after(((COIN,) * 12, ()), [(0, 1, 12 * COIN), (1, 0, 1)]), (1, 12 * COIN - 1))
        for split, debts in ROWS:
            for play in plays_by_search(split, debts):
                self.assertEqual(worths_after(split, debts), worths_by_purses(play[-1]))


class Plays(Case):
    def test_a_play_exactly_if_the_last_layer_is_not_empty(self):
        for split, debts in ROWS:
            plays = plays_by_search(split, debts)
            told = play_row(split, debts)
            if plays:
                self.assertIsInstance(told, Played)
                self.assertIn(told.splits, plays)
                self.assertIsNone(played_fault(split, debts, told))
            else:
                self.same(told, Blocked(layers_by_search(split, debts)))
            self.assertEqual(count_plays(split, debts), len(plays))

    def test_most_paid(self):
        for split, debts in ROWS:
            wanted = max(many for many in range(len(debts) + 1) if plays_by_search(split, debts[:many]))
            self.assertEqual(most_paid(split, debts), wanted)

    def test_worst_play(self):
        found = 0
        for split, debts in ROWS:
            many = fewest_paid(split, debts)
            told = worst_play(split, debts)
            if many is None:
                self.assertIsNone(told)
                continue
            found += 1
            self.assertIsInstance(told, Unpaid)
            self.assertIn(told.splits, plays_by_search(split, debts[:many]))
            self.assertEqual(told.debt, debts[many])
            self.assertEqual(ways_by_splits(told.splits[-1], told.debt), [])
            self.assertIsNone(unpaid_fault(split, debts, told))
        self.assertTrue(50 < found < len(ROWS) - 50)

    def test_the_example(self):
        blocked = Blocked(((SPLIT,), (((2,), (), (1, 1)),), ()))
        self.same(play_row(SPLIT, ROW), blocked)
        self.assertEqual(count_plays(SPLIT, ROW), 0)
        self.assertEqual(most_paid(SPLIT, ROW), 1)
        self.same(worst_play(SPLIT, ROW), Unpaid((SPLIT, ((2,), (), (1, 1))), (0, 1, 1)))
        self.same(play_row(SPLIT, [[0, 2, 1], [2, 1, 1]]), Played((SPLIT, ((1,), (1,), (2,)), ((1,), (2,), (1,)))))

    def test_no_debts(self):
        self.same(play_row([[2, 1]], []), Played((((1, 2),),)))
        self.assertEqual(count_plays([[2, 1]], []), 1)
        self.assertEqual(most_paid([[2, 1]], []), 0)
        self.assertIsNone(worst_play([[2, 1]], []))

    def test_layers_end_with_the_first_empty_one(self):
        told = play_row(((2,), ()), ((0, 1, 1), (0, 1, 1), (1, 0, 2)))
        self.same(told, Blocked(((((2,), ()),), ())))

    def test_layers_are_ascending_as_plain_tuples(self):
        split = ((2, 5, 5), (2, 4))
        debts = ((1, 0, 2), (1, 0, 3), (0, 1, 3), (0, 1, 2))
        wanted = layers_by_search(split, debts)
        self.assertNotEqual([sorted(layer, key=split_key) for layer in wanted], [list(layer) for layer in wanted])
        self.assertEqual(wanted[-1], ())
        self.same(play_row(split, debts), Blocked(wanted))


class Many(Case):
    """More than 400 splits in a layer, and just 400."""

    def test_just_as_many_as_are_let(self):
        for split, debts in JUST_ROWS:
            told = play_row(split, debts)
            self.assertIsNone(played_fault(split, debts, told))
            self.assertGreaterEqual(count_plays(split, debts), 400)
            self.assertEqual(most_paid(split, debts), 2)
            worst_play(split, debts)

    def test_too_many(self):
        for split, debts in MANY_ROWS:
            for more in ((), ((2, 0, 1),), ((2, 0, 1), (0, 2, 1))):
                for function in (play_row, count_plays, most_paid, worst_play):
                    self.fails(TooMany, (400,), function, split, debts + more)

    def test_the_whole_row_is_asked_though_a_debt_cannot_be_paid_ahead(self):
        # With twice the coins nothing odd can be paid, but only behind too many splits.
        for split, debts in MANY_ROWS:
            twice = tuple(tuple(2 * coin for coin in purse) for purse in split)
            row = tuple((debtor, creditor, 2 * amount) for debtor, creditor, amount in debts)
            for function in (play_row, count_plays, most_paid, worst_play):
                self.fails(TooMany, (400,), function, twice, row + ((2, 0, 1),))
            # Layers behind the first empty one are not asked.
            told = play_row(twice, ((0, 1, 1), (1, 0, 1)) + row)
            self.same(told, Blocked(((twice,), ())))
            self.assertEqual(count_plays(twice, ((0, 1, 1), (1, 0, 1)) + row), 0)
            self.assertEqual(most_paid(twice, ((0, 1, 1), (1, 0, 1)) + row), 0)
            unpaid = Unpaid((twice,), (0, 1, 1))
            self.same(worst_play(twice, ((0, 1, 1), (1, 0, 1)) + row), unpaid)
            self.assertIsNone(unpaid_fault(twice, ((0, 1, 1), (1, 0, 1)) + row, unpaid))

    def test_the_judge_tells_every_word_but_the_last_first(self):
        for split, debts in MANY_ROWS:
            way = play_row(split, debts[:1]).splits[1]
            self.assertEqual(played_fault(split, debts, Played((split, way))), "many")
            self.assertEqual(unpaid_fault(split, debts, Unpaid((split, way), debts[0])), "debt")
            self.assertEqual(unpaid_fault(split, debts, Unpaid((split,), debts[0])), "paid")
        for split, debts in MANY_ROWS:
            # One coin for the last person is of another worth, so that some debt has no way at the beginning.
            split = (split[0][:-1], (), split[0][-1:])
            worth = split[2][0] - 1
            row = ((2, 1, worth),) + debts
            self.assertIsNotNone(worst_play(split, row[:1]))
            self.assertIsNone(unpaid_fault(split, row, Unpaid((split,), row[0])))

    def test_too_many_comes_ahead_of_fewer_and_of_no_fault(self):
        for split, debts in MANY_ROWS:
            twice = tuple(tuple(2 * coin for coin in purse) for purse in split)
            first = (debts[0][0], debts[0][1], 2 * debts[0][2])
            way = play_row(twice, (first,)).splits[1]
            second = (debts[1][0], debts[1][1], 2 * debts[1][2])
            for row in ((first, (1, 0, 1), second), (first, (1, 2, 1), second)):
                # The layers end behind the debt that cannot be paid.
                self.assertIsNone(unpaid_fault(twice, row, Unpaid((twice, way), row[1])))
            row = (first, second, (2, 0, 1))
            last = [after for after in ways_of(way, second)][0]
            self.fails(TooMany, (400,), unpaid_fault, twice, row, Unpaid((twice, way, last), (2, 0, 1)))

    def test_long_rows_are_answered_at_once(self):
        pool = (1, 1, 2, 4, 8, 16, 32, 64, 128, 256, 512, 1024)
        row = tuple((at % 2, 1 - at % 2, 700) for at in range(12))
        with at_once():
            self.assertIsInstance(play_row((pool, ()), row), Played)
            self.assertGreater(count_plays((pool, ()), row), 1)
            great = (tuple(range(COIN - 11, COIN + 1)), (), ())
            self.same(play_row(great, ((0, 1, 1), (1, 2, 1))), Blocked(((great,), ())))


class Judged(Case):
    def test_the_words_for_a_play(self):
        debts = ((0, 1, 1), (1, 0, 1))
        right = (SPLIT, ((1,), (2,), (1,)), SPLIT)
        self.assertIsNone(played_fault(SPLIT, debts, Played(right)))
        self.assertIsNone(played_fault(SPLIT, debts, Played([[list(purse) for purse in split] for split in right])))
        self.assertIsNone(played_fault([[2, 1]], [], Played([[[1, 2]]])))
        for splits in (None, 3, (), right[:2], right + right[:1], {}):
            self.assertEqual(played_fault(SPLIT, debts, Played(splits)), "many")
        for begin in (None, ((2,), (1,)), ((1,), (2,), (1,)), ((2,), (1,), (True,)), ((2,), (1,), (1,), ())):
            self.assertEqual(played_fault(SPLIT, debts, Played((begin,) + right[1:])), "begin")
        for step in (None, SPLIT, ((2,), (), (1, 1)), ((1,), (2,), (True,)), ((1,), (2,))):
            self.assertEqual(played_fault(SPLIT, debts, Played((SPLIT, step, SPLIT))), "step")
            if step != SPLIT:
                self.assertEqual(played_fault(SPLIT, debts, Played(right[:2] + (step,))), "step")

    def test_the_words_for_an_unpaid(self):
        after = ((2,), (), (1, 1))
        right = Unpaid((SPLIT, after), (0, 1, 1))
        self.assertIsNone(unpaid_fault(SPLIT, ROW, right))
        self.assertIsNone(unpaid_fault(SPLIT, ROW, Unpaid([[[2], [1], [1]], [[2], [], [1, 1]]], (0, 1, 1))))
        for splits in (None, 3, (), [], (SPLIT, after, after), {}):
            self.assertEqual(unpaid_fault(SPLIT, ROW, Unpaid(splits, (0, 1, 1))), "many")
        self.assertEqual(unpaid_fault(SPLIT, (), Unpaid((SPLIT,), None)), "many")
        for begin in (None, after, ((2,), (1,), (True,))):
            self.assertEqual(unpaid_fault(SPLIT, ROW, Unpaid((begin, after), (0, 1, 1))), "begin")
        for step in (None, SPLIT, ((2,), (1, 1), ()), ((2,), (), (1, True))):
            self.assertEqual(unpaid_fault(SPLIT, ROW, Unpaid((SPLIT, step), (0, 1, 1))), "step")
        for debt in (None, (1, 2, 1), (0, True, 1), (False, 1, 1), (0, 1, 1, 1), (0, 1), [0, 1, 1], "011"):
            self.assertEqual(unpaid_fault(SPLIT, ROW, Unpaid((SPLIT, after), debt)), "debt")
        self.assertEqual(unpaid_fault(SPLIT, ROW, Unpaid((SPLIT,), (1, 2, 1))), "paid")

    def test_fewer(self):
        found = 0
        for split, debts in ROWS:
            many = fewest_paid(split, debts)
            for at in range(len(debts)):
                for play in plays_by_search(split, debts[:at]):
                    word = unpaid_fault(split, debts, Unpaid(play, debts[at]))
                    if ways_by_splits(play[-1], debts[at]):
                        self.assertEqual(word, "paid")
                    else:
                        self.assertEqual(word, "fewer" if many < at else None)
                        found += word == "fewer"
        self.assertGreater(found, 0)


if __name__ == "__main__":
    unittest.main()
