"""5.11 and 5.12: choosers, and debts that they pay."""

import copy
import unittest
from collections import Counter

from anyworths.debtrows import Played, Unpaid
from anyworths.errors import BadChoice, BadDebt, BadSplit, BadTurns
from anyworths.playing import choose_evenest, choose_fewest_moved, choose_first, choose_most_free, choose_most_ones
from anyworths.playing import play_against, play_debts
from tests.roads import Case, debts_by_worths, has_list, listed, pools_up_to, splits_in_order, ways_by_splits
from tests.test_debtrows import ROW, ROWS, SPLIT

CHOOSERS = (choose_first, choose_fewest_moved, choose_most_ones, choose_evenest, choose_most_free)
CASES = [
    (split, debt, tuple(ways_by_splits(split, debt)))
    for pool in pools_up_to(5, 3) + [(1, 1, 2, 3, 4), (1, 2, 2, 3, 5), (1, 1, 2, 2, 3, 3)] if len(pool) > 2
    for people in (2, 3) if len(pool) < 6 or people == 2
    for split in splits_in_order(pool, people)[::9] for debt in debts_by_worths(split)
    if len(ways_by_splits(split, debt)) > 1
]


def moved(split, debt, way):
    """How many coins change hands between two purses."""
    before, after = Counter(split[debt[0]]), Counter(way[debt[0]])
    return sum((before - after).values()) + sum((after - before).values())


def unpaid(way):
    return len([debt for debt in debts_by_worths(way) if not ways_by_splits(way, debt)])


class Choosers(Case):
    def check(self, choose, measure):
        unlike = 0
        for split, debt, ways in CASES:
            best = min(measure(split, debt, way) for way in ways)
            wanted = [way for way in ways if measure(split, debt, way) == best][0]
            self.same(choose(split, debt, ways), wanted)
            # Of the ways told in another order the first one wins a tie as well.
            turned = ways[::-1]
            wanted = [way for way in turned if measure(split, debt, way) == best][0]
            self.same(choose(split, debt, turned), wanted)
            unlike += wanted != turned[0]
        return unlike

    def test_the_first(self):
        for split, debt, ways in CASES:
            self.same(choose_first(split, debt, ways), ways[0])
            self.same(choose_first(split, debt, ways[::-1]), ways[-1])

    def test_the_fewest_moved(self):
        self.assertGreater(self.check(choose_fewest_moved, moved), 10)

    def test_the_most_ones(self):
        self.assertGreater(self.check(choose_most_ones, lambda _, debt, way: -way[debt[0]].count(1)), 10)

    def test_the_evenest(self):
        self.assertGreater(self.check(
            choose_evenest, lambda _, debt, way: abs(len(way[debt[0]]) - len(way[debt[1]]))), 10)

    def test_the_most_free(self):
        self.assertGreater(self.check(choose_most_free, lambda _, debt, way: unpaid(way)), 10)

    def test_what_they_are_told_is_the_same_afterwards(self):
        for choose in CHOOSERS:
            for split, debt, ways in CASES[:20]:
                told = [listed(split), list(debt), [way for way in ways]]
                before = copy.deepcopy(told)
                choose(*told)
                self.assertEqual(told, before)

    def test_of_one_way_it_is_that_one(self):
        for choose in CHOOSERS:
            self.same(choose(((1,), ()), (0, 1, 1), (((), (1,)),)), ((), (1,)))


class Rows(Case):
    def test_the_chooser_is_asked_once_for_each_debt_that_has_a_way(self):
        for split, debts in ROWS:
            for at in (0, -1):
                told = []

                def choose(*asked):
                    told.append(asked)
                    return asked[2][at]

                result = play_debts(split, debts, choose)
                splits, wanted = [split], []
                for debt in debts:
                    ways = tuple(ways_by_splits(splits[-1], debt))
                    if not ways:
                        self.same(result, Unpaid(tuple(splits), debt))
                        break
                    wanted.append((splits[-1], debt, ways))
                    splits.append(ways[at])
                else:
                    self.same(result, Played(tuple(splits)))
                self.assertEqual(told, wanted)
                self.assertFalse(has_list(tuple(told)))

    def test_the_choosers_of_the_package(self):
        for choose in CHOOSERS:
            for split, debts in ROWS[:100]:
                self.assertIsInstance(play_debts(split, debts, choose), (Played, Unpaid))
            self.same(play_debts(SPLIT, ROW, choose), Unpaid((SPLIT, ((2,), (), (1, 1))), (0, 1, 1)))
            self.same(play_debts([[2, 1]], [], choose), Played((((1, 2),),)))

    def test_lists_and_coins_in_any_order_may_be_chosen(self):
        told = play_debts([[3, 2, 1], []], [[0, 1, 3]], lambda split, debt, ways: [[2, 1], [3]])
        self.same(told, Played((((1, 2, 3), ()), ((1, 2), (3,)))))

    def test_wrong_choices(self):
        split = ((1, 2, 3), (1,))
        wrong = (None, True, 0, "", (), ((1, 2, 3), (1,)), ((1, 1), (2, 3), ()), ((1, 1, 3), (2,), ()), ((True,), ()),
                 ((1, 1, 2), (True, 3)), ((1, 1, 1), (4,)), [[]], {}, ((1, 1, 3), 2))
        for thing in wrong:
            for paid in range(3):
                def choose(now, debt, ways):
                    return thing if now[1] == splits[paid][1] else ways[0]

                debts = [(0, 1, 1), (0, 1, 1), (0, 1, 1)]
                splits = play_debts(split, debts, choose_first).splits
                self.fails(BadChoice, (paid,), play_debts, split, debts, choose)
                asked = iter(debts)
                self.fails(BadChoice, (paid,), play_against, split, lambda now: next(asked, None), choose, 9)

    def test_what_a_chooser_raises_is_raised(self):
        def choose(split, debt, ways):
            raise BadSplit(3, "own")

        self.fails(BadSplit, (3, "own"), play_debts, SPLIT, ROW, choose)
        self.fails(BadSplit, (3, "own"), play_against, SPLIT, lambda now: (1, 2, 1), choose, 9)
        self.fails(BadSplit, (3, "own"), play_against, SPLIT, lambda now: choose(now, 0, 0), choose_first, 9)


class Against(Case):
    def test_debts_that_come_one_by_one(self):
        for split, debts in ROWS:
            asked, rest = [], list(debts)

            def ask(now):
                asked.append(now)
                return list(rest.pop(0)) if rest else None

            told = play_against(split, ask, choose_evenest, 400)
            self.same(told, play_debts(split, debts, choose_evenest))
            self.assertEqual(tuple(asked), told.splits)
            self.assertFalse(has_list(tuple(asked)))

    def test_no_more_turns_than_told(self):
        for turns in (0, 1, 2, 7, 400):
            asked = []

            def ask(now):
                asked.append(now)
                return (0, 1, 1) if now[0] else (1, 0, 1)

            told = play_against([[1], []], ask, choose_first, turns)
            self.assertEqual(len(asked), turns)
            self.assertEqual(len(told.splits), turns + 1)
            self.assertIsInstance(told, Played)

    def test_none_ends_the_play(self):
        self.same(play_against(SPLIT, lambda now: None, choose_first, 5), Played((SPLIT,)))
        self.same(play_against([[2], [1], [1]], lambda now: None, None, 0), Played((SPLIT,)))

    def test_a_debt_without_a_way(self):
        told = play_against(((2,), ()), lambda now: [0, 1, 1], choose_first, 1)
        self.same(told, Unpaid((((2,), ()),), (0, 1, 1)))

    def test_wrong_debts_and_turns(self):
        for debt, what in ((0, "debt"), ((0, 1), "debt"), ((0, 1, True), "debt"), ((0, 3, 1), "persons"),
                           ((0, 0, 1), "persons"), ((0, 1, 3), "amount"), ((0, 1, 0), "amount"), (False, "debt")):
            self.fails(BadDebt, (what,), play_against, SPLIT, lambda now: debt, choose_first, 3)
        rows = [(0, 1, 2), (0, 1, 1)]
        self.fails(BadDebt, ("amount",), play_against, SPLIT, lambda now: rows.pop(0), choose_first, 3)
        for turns in (-1, 401, None, True, "1", 1.0):
            self.fails(BadTurns, (), play_against, SPLIT, None, None, turns)


if __name__ == "__main__":
    unittest.main()
