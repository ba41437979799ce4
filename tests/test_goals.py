"""10.3 and 10.4: goals of a pool."""

import random
import unittest
from itertools import product

from anyworths.errors import BadGoal, BadPool, TooMany
from anyworths.goals import Missed, check_goals, missed_fault, missed_goal
from anyworths.leaving import Stays, leaves
from anyworths.losses import Fallen, serves_after
from anyworths.serving import Unserved, serves
from tests.roads import Case, at_once, bears_by_lots, lasting_by_taking_away, listed, lots_in_order, pools_up_to
from tests.roads import rest_by_counts, serves_by_formula
from tests.test_bands import JUST, MANY
from tests.test_holding import MANY_LAYERS

COIN = 10 ** 9
AMOUNT = 12 * COIN
POOLS = pools_up_to(3, 4) + [(1, 1, 1, 2), (1, 1, 2, 3), (1, 2, 2, 3), (2, 2, 2, 2), (1, 1, 1, 1)]
NO_NUMBERS = (None, True, False, "1", "", 1.0, (1,), [1], {})
FORMS = {
    "serves": [("serves", people) for people in range(1, 6)],
    "serves after": [("serves after", people, lost) for people in (1, 2, 3) for lost in (0, 1, 2, 12)],
    "at most": [("at most", count) for count in (0, 1, 2, 3, 12)],
    "total": [("total", 0, 0), ("total", 0, AMOUNT), ("total", 3, 5), ("total", 4, 4), ("total", 9, AMOUNT)],
    "leaves": [("leaves", people, worth) for people in (2, 3, 5) for worth in (0, 1, 2, 5, AMOUNT)],
    "finer": [("finer", other) for other in ((), (2,), (3,), (1, 2), (2, 2), (4,), (1, 3), (COIN,))],
    "lasting": [
        ("lasting", people, band, most) for people in (1, 2, 3)
        for band, most in ((None, None), ((1, None), None), ((1, 2), 1), ((0, 0), None), ((50, 60), 3))
    ],
}
GOALS = [goal for goals in FORMS.values() for goal in goals]


def is_finer_by_search(one, other):
    """Whether heaps of the one pool have the sums of the other one's coins."""
    if not other:
        return not one
    return any(
        sum(lot) == other[0] and is_finer_by_search(rest_by_counts(one, lot), other[1:]) for lot in lots_in_order(one)
    )


def judged_by_roads(pool, goal):
    """Whether the pool meets a goal, and why not."""
    word, told = goal[0], goal[1:]
    if word == "serves":
        return serves_by_formula(pool, *told), serves(pool, *told)
    if word == "serves after":
        return bears_by_lots(pool, *told), serves_after(pool, *told)
    if word == "at most":
        return len(pool) <= told[0], len(pool)
    if word == "total":
        return told[0] <= sum(pool) <= told[1], sum(pool)
    if word == "leaves":
        met = any(
            sum(lot) == told[1] and serves_by_formula(rest_by_counts(pool, lot), told[0] - 1)
            for lot in lots_in_order(pool)
        )
        return met, leaves(pool, *told) if told[1] <= sum(pool) else None
    if word == "finer":
        return is_finer_by_search(pool, told[0]), None
    return bool(lasting_by_taking_away(pool, *told)), None


def no_goals():
    """Things that are no goals."""
    things = [None, 0, True, "serves", (), [], {}, {"serves": 1}, ("serves",), ("serves", 1, 1), ("Serves", 1)]
    things += [(None, 1), ("", 1), (1, 1), (True, 1), (("serves",), 1), (["serves"], 2), ({}, 1), (b"serves", 1)]
    things += [(object(), 1), (Missed(0, None), 1), (0, "serves"), ([], [])]
    things += [("serves after", 1), ("at most", 1, 1), ("total", 1), ("leaves", 2), ("finer",), ("lasting", 1, None)]
    things += [("serves after", 1, 1, 1), ("finer", (1,), (1,)), ("lasting", 1, None, None, None)]
    for thing in NO_NUMBERS + (0, 6, -1):
        things += [("serves", thing), ["serves after", thing, 1], ("leaves", thing, 1), ("lasting", thing, None, None)]
    things += [("leaves", 1, 1)]
    for thing in NO_NUMBERS + (-1, 13):
        things += [("serves after", 2, thing), ("at most", thing)]
    for thing in NO_NUMBERS + (-1, AMOUNT + 1):
        things += [("total", thing, 3), ("total", 0, thing), ("leaves", 2, thing)]
    things += [("total", 3, 2), ("total", AMOUNT, 0)]
    for thing in (None, 1, "1", {1}, (0,), (True,), (1,) * 13, (COIN + 1,), [None]):
        things.append(("finer", thing))
    for thing in (1, "", (), (1,), (1, 2, 3), (True, None), (-1, None), (2, 1), (None, None), {}, (0, "1")):
        things.append(("lasting", 2, thing, None))
    for thing in (0, True, -1, AMOUNT + 1, "1", 1.0, (1,)):
        things.append(("lasting", 2, None, thing))
    return things


class Checked(Case):
    def test_goals_as_tuples(self):
        for goal in GOALS:
            self.same(check_goals([goal]), (goal,))
            self.same(check_goals((listed(goal),)), (goal,))
        self.same(check_goals([["finer", [2, 1]], ["lasting", 2, [0, None], 5], ["lasting", 2, None, None]]), (
            ("finer", (1, 2)), ("lasting", 2, (0, None), 5), ("lasting", 2, None, None)))
        self.same(check_goals([("at most", 12)] * 6), (("at most", 12),) * 6)
        self.same(check_goals([("total", AMOUNT, AMOUNT), ("leaves", 5, AMOUNT), ("serves after", 5, 12)]), (
            ("total", AMOUNT, AMOUNT), ("leaves", 5, AMOUNT), ("serves after", 5, 12)))

    def test_what_is_no_goal(self):
        for goals in (None, 0, "", "serves", {}, (), [], [("serves", 1)] * 7, [None] * 7, range(2), {("serves", 1)}):
            self.fails(BadGoal, (0,), check_goals, goals)
        for thing in no_goals():
            self.fails(BadGoal, (0,), check_goals, [thing])
            self.fails(BadGoal, (2,), check_goals, (("serves", 1), ["at most", 0], thing, None))
            self.fails(BadGoal, (1,), missed_goal, (9,), (("serves", 2), thing))
            self.fails(BadGoal, (1,), missed_fault, (9,), (("serves", 2), thing), None)

    def test_the_errors_in_their_order(self):
        for function in (missed_goal, lambda *told: missed_fault(*told, None)):
            self.fails(BadPool, (0, "coin"), function, [0], None)
            self.fails(BadPool, (0, "many"), function, None, None)
            self.fails(BadGoal, (0,), function, [1], None)


class First(Case):
    def test_each_form_met_and_missed(self):
        truths = {}
        for pool, goal in product(POOLS, GOALS):
            met, why = judged_by_roads(pool, goal)
            told = missed_goal(list(pool)[::-1], [listed(goal)])
            self.same(told, None if met else Missed(0, why))
            truths[goal[0], met, told is not None and told.why.__class__.__name__] = True
            fault = missed_fault(list(pool)[::-1], [listed(goal)], Missed(0, why))
            self.assertEqual(fault, "met" if met else None)
        self.assertEqual(len({key[:2] for key in truths}), 14)
        self.assertIn(("leaves", False, "Stays"), truths)
        self.assertIn(("leaves", False, "NoneType"), truths)

    def test_the_first_of_several(self):
        chance = random.Random(43)
        places = {}
        for _ in range(1500):
            pool = chance.choice(POOLS)
            goals = [chance.choice(FORMS[chance.choice(list(FORMS))]) for _ in range(chance.randint(1, 6))]
            missed = [(at, judged_by_roads(pool, goal)) for at, goal in enumerate(goals)]
            missed = [Missed(at, why) for at, (met, why) in missed if not met]
            self.same(missed_goal(pool, goals), missed[0] if missed else None)
            places[missed[0].place if missed else None] = True
            # The judge does not ask the goals before.
            for one in missed:
                self.assertIsNone(missed_fault(pool, listed(goals), one))
            for place in set(range(len(goals))) - {one.place for one in missed}:
                self.assertEqual(missed_fault(pool, goals, Missed(place, None)), "met")
        self.assertGreater(len(places), 5)

    def test_some_pools(self):
        self.assertIsNone(missed_goal((1, 1, 2, 3), [("serves", 3), ("total", 5, 9)]))
        self.same(missed_goal((1, 1, 3), [("serves", 3), ("total", 5, 9)]), Missed(0, serves((1, 1, 3), 3)))
        self.same(missed_goal([2, 1, 1], [["serves", 3], ["total", 5, 9]]), Missed(1, 4))
        self.same(missed_goal((1, 1, 2, 3), [("serves after", 2, 2)]), Missed(0, Fallen((1, 1), 2, (4, 1))))
        self.same(missed_goal((1, 2, 2), [("leaves", 3, 1)]), Missed(0, Stays((((1,), 0, (3, 1)),))))
        self.same(missed_goal((1, 2, 2), [("leaves", 3, 6)]), Missed(0, None))
        self.same(missed_goal((1, 1, 2), [("lasting", 3, None, None)]), Missed(0, None))
        self.assertIsNone(missed_goal((1, 1, 2), [("lasting", 3, (1, None), None)]))


class Judged(Case):
    def test_each_word(self):
        goals = [("serves", 2), ("total", 4, 9), ("at most", 2), ("leaves", 3, 1), ("leaves", 2, 9)]
        goals.append(("lasting", 3, None, None))
        pool = (1, 2, 2)
        for thing in (None, 0, "missed", (3, None), [], serves((1, 2, 2), 3), Unserved(3, None)):
            self.assertEqual(missed_fault(pool, goals, thing), "missed")
        for place in (None, True, False, -1, 6, "1", 1.0, (1,)):
            self.assertEqual(missed_fault(pool, goals, Missed(place, 3)), "place")
        for place in (0, 1):
            self.assertEqual(missed_fault(pool, goals, Missed(place, None)), "met")
        for why in (None, True, 2, 4, "3", 3.0, (3,), Unserved(3, 3)):
            self.assertEqual(missed_fault(pool, goals, Missed(2, why)), "why")
        self.assertIsNone(missed_fault(pool, goals, Missed(2, 3)))
        for why in (None, 1, (), Stays(()), Stays(None), Stays((((1,), 0, (2, 2)),)), Stays((([1], 0, (3, 1)),)),
                    Unserved(0, (3, 1)), ((1,), 0, (3, 1))):
            self.assertEqual(missed_fault(pool, goals, Missed(3, why)), "why")
        for why in (Stays((((1,), 0, (3, 1)),)), Stays([[(1,), 0, [1, 3]]])):
            self.assertIsNone(missed_fault(pool, goals, Missed(3, why)))
        for place in (4, 5):
            self.assertIsNone(missed_fault(pool, goals, Missed(place, None)))
            for why in (0, False, (), Stays(()), Stays((((1,), 0, (3, 1)),)), Unserved(0, (1, 1)), "None"):
                self.assertEqual(missed_fault(pool, goals, Missed(place, why)), "why")

    def test_numbers_are_no_truths(self):
        self.assertIsNone(missed_fault((1,), [("at most", 0)], Missed(0, 1)))
        self.assertEqual(missed_fault((1,), [("at most", 0)], Missed(0, True)), "why")
        self.assertIsNone(missed_fault((1,), [("total", 2, 3)], Missed(0, 1)))
        self.assertEqual(missed_fault((1,), [("total", 2, 3)], Missed(0, True)), "why")
        self.assertIsNone(missed_fault((), [("total", 2, 3)], Missed(0, 0)))
        self.assertEqual(missed_fault((), [("total", 2, 3)], Missed(0, False)), "why")
        self.assertEqual(missed_fault((), [("total", 2, 3)], Missed(0, None)), "why")

    def test_the_judges_of_other_parts(self):
        pool, goals = (1, 2, 2), [("serves", 3), ("serves after", 2, 1), ("finer", (4,))]
        for why in (Unserved(1, (3, 1, 1)), Unserved(1, [1, 3, 1]), Unserved(2, (3, 1, 1))):
            wanted = None if why.place == 1 else "why"
            self.assertEqual(missed_fault(pool, goals, Missed(0, why)), wanted)
        for why in (None, 1, (1, (3, 1, 1)), Unserved(1, (2, 2, 1)), Unserved(3, (3, 1, 1)), Unserved(1, (3, 1, 2)),
                    Unserved(None, None), Fallen((), 2, (3, 1, 1)), Stays(())):
            self.assertEqual(missed_fault(pool, goals, Missed(0, why)), "why")
        self.assertIsNone(missed_fault(pool, goals, Missed(1, serves_after(pool, 2, 1))))
        self.assertIsNone(missed_fault(pool, goals, Missed(1, Fallen([1], 2, [3, 1]))))
        for why in (None, 1, Fallen((), 2, (3, 2)), Fallen((1,), 1, (3, 1)), Fallen((2,), 2, (3, 0)),
                    Unserved(0, (3, 1)), Fallen((1,), 2, (2, 2)), Fallen((1, 2), 2, (1, 1)), Fallen(None, None, None)):
            self.assertEqual(missed_fault(pool, goals, Missed(1, why)), "why")
        self.assertIsNone(missed_fault(pool, goals, Missed(2, None)))
        for why in (0, (), False, Stays(())):
            self.assertEqual(missed_fault(pool, goals, Missed(2, why)), "why")


class Bounds(Case):
    def test_lasting_goals_of_pools_with_more_than_four_hundred_splits(self):
        for pool, people in MANY:
            goal = ("lasting", people, None, None)
            for goals in ([goal], [("at most", 12), goal], [goal, ("at most", 0)]):
                self.fails(TooMany, (400,), missed_goal, pool, goals)
            # It does not come to the goal.
            self.same(missed_goal(pool, [("at most", 0), goal]), Missed(0, len(pool)))
            self.fails(BadGoal, (1,), missed_goal, pool, [goal, None])
            self.fails(TooMany, (400,), missed_fault, pool, [("at most", 0), goal], Missed(1, None))
            self.assertIsNone(missed_fault(pool, [goal, ("at most", 0)], Missed(1, len(pool))))
            self.assertEqual(missed_fault(pool, [goal], Missed(1, None)), "place")
            self.assertEqual(missed_fault(pool, [goal], None), "missed")
        with at_once():
            for pool, people in JUST:
                told = missed_goal(pool, [("lasting", people, None, None)] * 6)
                self.assertEqual(told is None, people == 2 and serves(pool, 2) is None)

    def test_the_errors_of_a_judge(self):
        # The judge of a Fallen asks whether the rest has a split, and there are too many layers.
        pool, wish = MANY_LAYERS
        goals = [("serves after", 4, 0)]
        self.assertIsInstance(missed_goal(pool, goals).why, Fallen)
        self.fails(TooMany, (400,), missed_fault, pool, goals, Missed(0, Fallen((), pool[0], wish)))
        self.assertEqual(missed_fault(pool, goals, Missed(0, Fallen((), pool[0], wish[:2]))), "why")

    def test_great_coins_are_answered_at_once(self):
        with at_once():
            pool = tuple(COIN - 3 ** at for at in range(12))
            goals = [("serves", 1), ("at most", 12), ("total", 0, AMOUNT), ("leaves", 2, sum(pool)), ("finer", pool)]
            self.assertIsNone(missed_goal(pool, goals))
            self.same(missed_goal(pool, goals + [("serves after", 2, 12)]), Missed(5, serves_after(pool, 2, 12)))
            self.same(missed_goal(pool, goals + [("leaves", 2, COIN)]), Missed(5, Stays(())))


if __name__ == "__main__":
    unittest.main()
