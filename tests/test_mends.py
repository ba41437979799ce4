"""10.5 to 10.8 and 10.11: choices of edits that mend a pool, and what spoils them."""

import random
import unittest
from functools import cache
from itertools import chain, combinations

from anyworths.edits import pool_after
from anyworths.errors import BadEdit, BadGoal, BadPool, TooMany
from anyworths.goals import Missed, missed_fault, missed_goal
from anyworths.mends import Mends, Spoiler, find_mends, find_spoilers, mends_fault
from tests.roads import Case, at_once, has_list, listed, pools_up_to
from tests.test_bands import MANY
from tests.test_edits import EDITS
from tests.test_goals import FORMS

COIN = 10 ** 9
EXAMPLE = ((1, 1), (("put", 3), ("put", 2)), (("serves", 3), ("total", 5, 9)))


def subsets(places):
    """All choices of these places, the shorter first."""
    places = list(places)
    return list(chain.from_iterable(combinations(places, many) for many in range(len(places) + 1)))


def missed_by_choice(pool, offer, goals):
    """What missed_goal returns behind each choice."""
    return {
        choice: missed_goal(pool_after(pool, [offer[place] for place in choice]), goals)
        for choice in subsets(range(len(offer)))
    }


def mends_by_search(pool, offer, goals):
    """The least choices and the failing ones, by all choices."""
    known = missed_by_choice(pool, offer, goals)
    good = [choice for choice in known if known[choice] is None]
    least = tuple(choice for choice in good if not any(set(other) < set(choice) for other in good))
    failing = tuple(
        (choice, known[choice]) for choice in known if not any(set(other) <= set(choice) for other in least)
    )
    return good, Mends(least, failing)


@cache
def cases():
    """Pools, offers and goals."""
    chance = random.Random(47)
    pools = pools_up_to(3, 3) + [(1, 1, 2, 3), (1,) * 11]
    rows = [EXAMPLE]
    for _ in range(500):
        goals = tuple(chance.choice(FORMS[chance.choice(list(FORMS))]) for _ in range(chance.choice((1, 1, 2, 3))))
        puts = [("put", coin) for coin in (1, 1, 2, 3)]
        offer = tuple(chance.choice(chance.choice((EDITS, puts))) for _ in range(chance.randint(1, 5)))
        rows.append((chance.choice(pools), offer, goals))
    return rows


class Mended(Case):
    def test_all_least_choices_and_what_the_others_miss(self):
        counts = {}
        for pool, offer, goals in cases():
            good, wanted = mends_by_search(pool, offer, goals)
            told = find_mends(list(pool)[::-1], listed(offer), listed(goals))
            self.same(told, wanted)
            self.assertFalse(has_list(told.least) or has_list(told.failing))
            counts[min(len(told.least), 2), min(len(told.failing), 1)] = True
            self.assertIsNone(mends_fault(list(pool)[::-1], listed(offer), listed(goals), told))
        self.assertEqual(sorted(counts), [(0, 1), (1, 0), (1, 1), (2, 1)])

    def test_the_example(self):
        told = find_mends([1, 1], [["put", 3], ["put", 2]], [["serves", 3], ["total", 5, 9]])
        self.same(told.least, ((0, 1),))
        self.same(told.failing, (
            ((), Missed(1, 2)), ((0,), missed_goal((1, 1, 3), EXAMPLE[2])), ((1,), Missed(1, 4))))
        self.assertEqual(told.needed, (0, 1))
        self.same(find_mends((1, 1), (("take", 9),), (("serves", 2),)), Mends(((),), ()))
        self.same(find_mends((5,), (("take", 9),), (("serves", 2),)).least, ())
        # The edits are made in the order of the offer.
        self.same(find_mends((), (("take", 1), ("put", 1)), (("at most", 0),)).least, ((),))
        self.same(find_mends((2,), (("break", 3, (1, 2)), ("put", 3)), (("serves", 2),)).least, ())

    def test_places_in_every_least_choice(self):
        unlike = {}
        for pool, offer, goals in cases():
            good, wanted = mends_by_search(pool, offer, goals)
            needed = find_mends(pool, offer, goals).needed
            self.assertFalse(has_list(needed))
            self.assertIsInstance(needed, tuple)
            if not wanted.least:
                self.assertEqual(needed, ())
                continue
            self.assertEqual(needed, tuple(
                place for place in range(len(offer)) if all(place in choice for choice in wanted.least)))
            for choice in good:
                self.assertLessEqual(set(needed), set(choice))
            unlike[len(needed)] = True
        self.assertGreater(len(unlike), 2)
        self.assertEqual(Mends((), ()).needed, ())
        self.assertEqual(Mends(((0, 2), (1, 2, 3)), ()).needed, (2,))
        self.assertEqual(Mends(((),), ()).needed, ())
        self.assertEqual(Mends(((0,), (1,)), ()).needed, ())


class Spoiled(Case):
    def test_places_added_to_least_choices(self):
        found = 0
        for pool, offer, goals in cases():
            known = missed_by_choice(pool, offer, goals)
            wanted = []
            for choice in mends_by_search(pool, offer, goals)[1].least:
                for added in range(len(offer)):
                    missed = known[tuple(sorted({added, *choice}))]
                    if added not in choice and missed is not None:
                        wanted.append(Spoiler(choice, added, missed))
            told = find_spoilers(list(pool)[::-1], listed(offer), listed(goals))
            self.same(told, tuple(wanted))
            found += len(wanted)
        self.assertGreater(found, 20)

    def test_no_spoiler_for_ones_and_lasting_serving(self):
        goals = [goal for word in ("serves", "serves after", "leaves") for goal in FORMS[word]]
        for pool in pools_up_to(3, 4):
            for goal in goals:
                for many in (1, 3, 5):
                    self.same(find_spoilers(pool, (("put", 1),) * many, (goal,)), ())
        chance = random.Random(53)
        for _ in range(200):
            pool = chance.choice(pools_up_to(4, 4))
            self.same(find_spoilers(pool, (("put", 1),) * 5, tuple(chance.choices(goals, k=3))), ())

    def test_some_spoilers(self):
        self.same(find_spoilers((1, 1), (("put", 9), ("put", 1)), (("serves", 2),)), (
            Spoiler((), 0, missed_goal((1, 1, 9), (("serves", 2),))),))
        self.same(find_spoilers([1, 1], [["put", 1], ["put", 1]], [["total", 3, 3]]), (
            Spoiler((0,), 1, Missed(0, 4)), Spoiler((1,), 0, Missed(0, 4))))
        self.same(find_spoilers((5,), (("put", 9),), (("serves", 2),)), ())


class Judged(Case):
    def test_the_right_mends_alone_have_no_fault(self):
        for pool, offer, goals in cases()[::5]:
            good, right = mends_by_search(pool, offer, goals)
            if len(offer) > 2:
                continue
            choices = subsets(range(len(offer)))
            known = missed_by_choice(pool, offer, goals)
            for least in subsets(choices):
                for failing in subsets(choices):
                    told = Mends(least, tuple((choice, known[choice] or Missed(0, 0)) for choice in failing))
                    self.assertEqual(mends_fault(pool, offer, goals, told), self.word_by_words(
                        choices, known, least, failing))
                    self.assertEqual(mends_fault(pool, offer, goals, told) is None, told == right)

    def word_by_words(self, choices, known, least, failing):
        """The first word of the document that applies."""
        if any(set(one) < set(other) for one in least for other in least) or any(
                set(one) <= set(other) for one in least for other in failing):
            return "within"
        if any(not any(set(one) <= set(choice) for one in least) and choice not in failing for choice in choices):
            return "lacking"
        if any(known[choice] is not None for choice in least):
            return "good"
        return "missed" if any(known[choice] is None for choice in failing) else None

    def test_other_reasons_are_no_fault(self):
        # The second goal is missed, too, and lists may stand within a reason.
        pool, offer, goals = (1, 4), (("put", 2),), (("serves", 2), ("at most", 1))
        right = find_mends(pool, offer, goals)
        self.assertEqual([missed.place for _, missed in right.failing], [0, 1])
        told = Mends((), (((), Missed(1, 2)), ((0,), Missed(1, 3))))
        self.assertIsNone(mends_fault(pool, offer, goals, told))
        self.assertNotEqual(told, right)
        told.failing[0][1].why = 3
        self.assertEqual(mends_fault(pool, offer, goals, told), "missed")

    def test_each_word(self):
        pool, offer, goals = EXAMPLE
        right = find_mends(pool, offer, goals)
        rows = right.failing

        def word(least=right.least, failing=rows):
            return mends_fault(pool, offer, goals, Mends(least, failing))

        self.assertIsNone(word())
        for thing in (None, 0, (), (right.least, rows), Missed(0, None), Spoiler((), 0, None), "mends"):
            self.assertEqual(mends_fault(pool, offer, goals, thing), "mends")
        for least in (None, 0, [(0, 1)], ([0, 1],), (0, 1), ((1, 0),), ((0, 2),), ((0, 0),), ((-1,),), ((False, 1),),
                      ((0, True),), ("01",), ((0, 1), (0, 1)), ((1,), (0,)), ((0, 1), (0,)), ((0, None),), {(0, 1): 1},
                      (((0,), 1),), (None,), ((0.0, 1),)):
            self.assertEqual(word(least=least), "mends", least)
        for failing in (None, 0, list(rows), (list(rows[0]),) + rows[1:], rows[::-1], rows + rows[:1], rows[:1] * 2,
                        (rows[0] + (0,),), (rows[0][:1],), ([()],), (None,), (((2,), None),), (([0], None),),
                        (((True,), None),), ((None, None),), (((1, 0), None),), "ab"):
            self.assertEqual(word(failing=failing), "mends", failing)
        for least, failing in ((((0,), (0, 1)), rows), (((),), rows), (((0,),), rows), (((), (1,)), ()),
                               (((0, 1),), rows + (((0, 1), None),)), (((0,),), (rows[1],))):
            self.assertEqual(word(least, failing), "within")
        for least, failing in (((), rows), ((), ()), (((0, 1),), rows[1:]), (((0, 1),), rows[:2]), (((0,),), rows[:1])):
            self.assertEqual(word(least, failing), "lacking")
        for least, failing in ((((),), ()), (((0,),), (rows[0], rows[2])), (((0,), (1,)), rows[:1])):
            self.assertEqual(word(least, failing), "good")
        for at, missed in ((0, None), (0, Missed(0, None)), (0, Missed(1, 3)), (2, Missed(0, None)), (1, Missed(1, 2)),
                           (1, Missed(None, None)), (0, 2)):
            failing = rows[:at] + ((rows[at][0], missed),) + rows[at + 1:]
            self.assertIsNotNone(missed_fault((1, 1) + ((), (3,), (2,))[at], goals, missed))
            self.assertEqual(word(failing=failing), "missed")
        whole = rows + (((0, 1), Missed(0, None)),)
        self.assertEqual(word((), whole), "missed")


class Wrong(Case):
    def test_the_errors_in_their_order(self):
        for function in (find_mends, find_spoilers, lambda *told: mends_fault(*told, None)):
            self.fails(BadPool, (0, "coin"), function, [0], None, None)
            for offer in (None, 0, "", (), [], (("put", 1),) * 6, [None] * 6, range(2), {("put", 1)}):
                self.fails(BadEdit, (0, "many"), function, [1], offer, None)
            self.fails(BadEdit, (0, "edit"), function, [1], (None,), None)
            self.fails(BadEdit, (1, "coin"), function, [1], (("put", 1), ("take", 0), None), None)
            self.fails(BadEdit, (4, "parts"), function, [1], (("put", 1),) * 4 + (("break", 1, (1,)),), None)
            for goals in (None, (), [("serves", 1)] * 7, [None]):
                self.fails(BadGoal, (0,), function, [1], [("put", 1)] * 5, goals)
            self.fails(BadGoal, (1,), function, [1], [("put", 1)], [("serves", 1), ("serves", 0), None])

    def test_lasting_goals_of_pools_with_more_than_four_hundred_splits(self):
        for pool, people in MANY:
            goals = (("lasting", people, None, None),)
            for function in (find_mends, find_spoilers):
                self.fails(TooMany, (400,), function, pool, (("put", 1),), goals)
                # The goal is not come to.
                function(pool, (("put", 1),), (("at most", 0),) + goals)
            rows = (((), Missed(0, None)), ((0,), Missed(0, None)))
            self.fails(TooMany, (400,), mends_fault, pool, (("put", 1),), goals, Mends((), rows))
            self.fails(TooMany, (400,), mends_fault, pool, (("put", 1),), goals, Mends(((),), ()))
            self.assertEqual(mends_fault(pool, (("put", 1),), goals, Mends((), rows[:1])), "lacking")
            self.assertEqual(mends_fault(pool, (("put", 1),), goals, None), "mends")

    def test_just_the_choices_that_are_asked_can_have_too_many(self):
        # Four unlike coins have 625 splits among five people, three have 125.
        pool, goals = (2, 3), (("lasting", 5, (0, 0), None), ("at most", 3))
        offer = (("put", 4), ("put", 5))
        self.fails(TooMany, (400,), find_mends, pool, offer, goals)
        self.fails(TooMany, (400,), find_spoilers, pool, offer, goals)
        pool, goals = (1, 2, 3), (("at most", 3), ("lasting", 5, None, None))
        self.same(find_mends(pool, (("put", 4),), goals).failing, (((), Missed(1, None)), ((0,), Missed(0, 4))))
        # With a least choice within, a choice is not asked by find_mends; find_spoilers judges it.
        pool, goals = (1, 1, 1), (("lasting", 5, None, None),)
        offer = (("put", 2), ("put", 3), ("put", 4))
        self.same(find_mends(pool, offer, goals), Mends(((),), ()))
        self.same(find_spoilers(pool, offer, goals), tuple(Spoiler((), added, Missed(0, None)) for added in range(3)))
        offer = (("put", 2), ("break", 2, (1, 1)), ("put", 3))
        self.same(find_mends((1, 1, 1, 1, 1), (("put", 2),), goals), Mends(((),), ()))
        self.fails(TooMany, (400,), find_spoilers, (1, 1, 1, 1, 1), (("put", 2),), goals)
        self.assertIsNone(mends_fault((1, 1, 1, 1, 1), (("put", 2),), goals, Mends(((),), ())))
        # Behind a choice of failing all goals up to the first missed one are asked, and the one that is told.
        many, few = (1, 1, 2, 2, 3), ("at most", 1)
        rows = (((), Missed(1, 5)), ((0,), Missed(1, 6)))
        self.fails(TooMany, (400,), mends_fault, many, (("put", 2),), goals + (few,), Mends((), rows))
        self.assertIsNone(mends_fault(many, (("put", 2),), (("at most", 12), few), Mends((), rows)))
        rows = (((), Missed(0, 5)), ((0,), Missed(0, 6)))
        self.assertIsNone(mends_fault(many, (("put", 2),), (few,) + goals, Mends((), rows)))
        rows = (((), Missed(0, 5)), ((0,), Missed(1, None)))
        self.fails(TooMany, (400,), mends_fault, many, (("put", 2),), (few,) + goals, Mends((), rows))
        # Least ones are asked first, and those of failing only if all of them are good.
        told = Mends(((0,),), (((), Missed(1, 5)),))
        self.fails(TooMany, (400,), mends_fault, (1, 1, 1, 1, 1), (("put", 2),), goals * 2, told)
        told = Mends(((),), ())
        self.assertEqual(mends_fault((2, 2, 2), (("put", 2),), goals, told), "good")
        told = Mends(((1,),), (((), Missed(0, None)), ((0,), Missed(0, None))))
        self.assertEqual(mends_fault((5,), (("put", 6), ("put", 7)), goals, told), "good")

    def test_great_coins_are_answered_at_once(self):
        with at_once():
            pool = tuple(COIN - 3 ** at for at in range(12))
            offer = tuple(("take", coin) for coin in pool[:5])
            goals = (("serves", 2), ("serves after", 3, 2), ("leaves", 2, 0), ("finer", (COIN,)), ("at most", 3))
            self.assertEqual(len(find_mends(pool, offer, goals).failing), 32)
            self.assertEqual(find_spoilers(pool, offer, (("at most", 7),)), ())


if __name__ == "__main__":
    unittest.main()
