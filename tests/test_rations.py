"""2.9 to 2.11: rations."""

import unittest

from anyworths.errors import BadMost, BadPool, BadRation
from anyworths.rations import Handed, Lacking, Short, check_ration, greatest_ration, hand_rations, serves_rations
from tests.roads import Case, at_once, pools_up_to, serves_by_formula, wishes_by_bars, worths_by_owners

COIN = 10 ** 9
SMALL = [(pool, people) for pool in pools_up_to(4, 3) for people in range(1, 4)]
SMALL += [(pool, people) for pool in pools_up_to(3, 3) for people in (4, 5)]
SMALL += [((1, 1, 2, 4, 9), 2), ((1, 2, 3, 9), 3), ((1, 1, 1, 2, 5), 3)]


def handed_out(pool, people):
    """All rations that can be handed out, by one person more who takes the rest."""
    return {worths[:-1] for worths in worths_by_owners(pool, people + 1)}


def by_rule(pool, ration):
    """What the rule of the document makes of a ration."""
    lacks, rest, lots = list(ration), [], [[] for _ in ration]
    for coin in sorted(pool)[::-1]:
        person = min(range(len(lacks)), key=lambda one: (-lacks[one], one))
        if lacks[person] < coin:
            rest.append(coin)
        else:
            lots[person].append(coin)
            lacks[person] -= coin
    if any(lacks):
        return Lacking(tuple(lacks), tuple(sorted(rest)))
    return Handed(tuple(tuple(sorted(lot)) for lot in lots), tuple(sorted(rest)))


class Rations(Case):
    def test_rations_come_back_as_tuples(self):
        self.same(check_ration([1, 2], [0, 2]), (0, 2))
        self.same(check_ration((), (0,) * 5), (0,) * 5)
        self.same(check_ration([COIN] * 12, [12 * COIN]), (12 * COIN,))

    def test_the_number_of_items(self):
        for ration in (None, "1", {}, (), [], (0,) * 6):
            self.fails(BadRation, (0, "many"), check_ration, (1, 2), ration)

    def test_one_item_is_checked_wholly_before_the_next(self):
        self.fails(BadRation, (0, "number"), check_ration, (1, 2), (-1, 9))
        self.fails(BadRation, (0, "sum"), check_ration, (1, 2), (4, None))
        self.fails(BadRation, (1, "number"), check_ration, (1, 2), (3, True))
        self.fails(BadRation, (1, "sum"), check_ration, (1, 2), (3, 1, -1))
        self.fails(BadRation, (2, "sum"), check_ration, (1, 2), [1, 2, 10 ** 40])
        self.fails(BadRation, (0, "sum"), check_ration, (), (1,))
        self.fails(BadPool, (0, "coin"), check_ration, (0,), None)

    def test_the_greatest_sum_of_all_rations(self):
        for pool, people in SMALL:
            able = handed_out(pool, people)
            good = -1
            for most in range(sum(pool) + 1):
                if good == most - 1 and all(ration in able for ration in wishes_by_bars(most, people)):
                    good = most
            self.assertEqual(greatest_ration(pool[::-1], people), good, (pool, people))
            self.assertEqual(good == sum(pool), serves_by_formula(pool, people + 1))

    def test_whether_rations_are_served(self):
        for pool, people in SMALL:
            able = handed_out(pool, people)
            greatest = greatest_ration(pool, people)
            for most in range(sum(pool) + 1):
                short = serves_rations(list(pool)[::-1], people, most)
                self.assertEqual(short is None, most <= greatest)
                if short is not None:
                    self.assertNotIn(short.ration, able)
                    self.assertEqual(len(short.ration), people)
                    self.assertEqual(sum(short.ration), sum(pool[: short.place]) + 1)
                    self.assertLessEqual(sum(short.ration), most)
                    self.assertEqual(list(short.ration), sorted(short.ration, reverse=True))
                    self.assertLess(max(short.ration), pool[short.place])
                    self.assertLessEqual(max(short.ration) - min(short.ration), 1)
                    for place in range(short.place):
                        self.assertGreaterEqual(sum(pool[:place]), people * (pool[place] - 1))

    def test_told_results(self):
        self.assertEqual(greatest_ration((), 5), 0)
        self.assertEqual(greatest_ration((2, 2), 1), 0)
        self.assertEqual(greatest_ration([4, 1, 1], 2), 2)
        self.assertEqual(greatest_ration([1, 1, 2], 2), 4)
        self.same(serves_rations([4, 1, 1], 2, 3), Short(2, (2, 1)))
        self.same(serves_rations([4, 1, 1], 2, 6), Short(2, (2, 1)))
        self.assertIsNone(serves_rations([4, 1, 1], 2, 2))
        self.same(serves_rations((2,), 1, 1), Short(0, (1,)))
        self.same(serves_rations((1, 1, 1, 5), 5, 8), Short(3, (1, 1, 1, 1, 0)))
        self.assertIsNone(serves_rations((), 1, 0))

    def test_sums_that_are_none_of_the_pool(self):
        for most in (None, True, False, -1, 4, "1", 1.0, [1]):
            self.fails(BadMost, (), serves_rations, (1, 2), 2, most)
        self.fails(BadMost, (), serves_rations, (), 2, 1)

    def test_handing_out_by_the_rule(self):
        for pool, people in SMALL:
            able = handed_out(pool, people)
            greatest = greatest_ration(pool, people)
            for most in range(sum(pool) + 1):
                for ration in wishes_by_bars(most, people):
                    result = hand_rations(list(pool)[::-1], list(ration))
                    self.same(result, by_rule(pool, ration))
                    if isinstance(result, Handed):
                        self.assertIn(ration, able)
                        self.assertEqual(tuple(sum(lot) for lot in result.lots), ration)
                    if most <= greatest:
                        self.assertIsInstance(result, Handed)

    def test_told_rations(self):
        self.same(hand_rations([2, 1, 1], (2, 1)), Handed(((2,), (1,)), (1,)))
        self.same(hand_rations((), (0, 0)), Handed(((), ()), ()))
        self.same(hand_rations((1, 2), (0, 0)), Handed(((), ()), (1, 2)))
        self.same(hand_rations((5, 2), (4, 0)), Lacking((2, 0), (5,)))
        self.same(hand_rations((3, 3, 4), [6]), Lacking((2,), (3, 3)))
        self.fails(BadRation, (1, "sum"), hand_rations, (1, 2), (1, 3))

    def test_twelve_great_coins(self):
        with at_once():
            self.assertEqual(greatest_ration([COIN] * 12, 5), 0)
            self.same(serves_rations([COIN] * 12, 5, 12 * COIN), Short(0, (1, 0, 0, 0, 0)))
            self.same(hand_rations([COIN] * 12, [12 * COIN]), Handed(((COIN,) * 12,), ()))
            self.same(hand_rations([COIN] * 12, [12 * COIN - 1]), Lacking((COIN - 1,), (COIN,)))


if __name__ == "__main__":
    unittest.main()
