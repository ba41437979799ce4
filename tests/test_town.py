"""10.9 and 10.10: the town, its deeds and its trials."""

import random
import unittest

from anyworths.errors import BadDebt, BadExchange, BadPerson, BadPool, BadSplit, BadWay, CannotCome, CannotLeave
from anyworths.errors import CannotPay, CannotTakeBack, PurseError
from anyworths.greedy import greatest_first
from anyworths.leaving import leaves
from anyworths.payments import first_way, ways_of
from anyworths.town import Town
from tests.roads import Case, at_once, debts_by_worths, exchanges_by_lots, handed, has_list, listed, pool_by_purses
from tests.roads import pools_up_to, rest_by_counts, serves_by_formula, splits_in_order, ways_by_splits
from tests.roads import worths_by_purses

COIN = 10 ** 9
SPLIT = ((2,), (), (1, 1))
DEBT = (0, 1, 2)


def seen_of(town):
    """All that can be seen of a town."""
    return town.purses, town.log, town.coins_now, town.worths_now, town.is_served, len(town), list(town)


def taken_back(town):
    """All that can be seen of a town when its deeds are taken back one by one, in a trial."""
    def call(tried):
        rows = [seen_of(tried)]
        while len(tried):
            tried.take_back()
            rows.append(seen_of(tried))
        return rows

    return town.tried(call)


def random_deed(chance, town):
    """Does a deed that may be refused."""
    split = town.purses
    people = len(split)
    kind = chance.choice(("pay", "pay", "way", "exchange", "leave", "come", "come"))
    if kind == "pay":
        town.pay(chance.choice(debts_by_worths(split) or [None]))
    elif kind == "way":
        debt = chance.choice(debts_by_worths(split) or [None])
        town.pay(debt, chance.choice((list(ways_of(split, debt)) if debt else []) + [split, None]))
    elif kind == "exchange":
        town.exchange_lots(chance.choice(exchanges_by_lots(split) + [(0, 1, (), ())]))
    elif kind == "leave":
        town.leave(chance.randint(0, people))
    else:
        town.come(tuple(chance.choice((1, 1, 2, 3)) for _ in range(chance.randint(0, 3))))


def random_towns(many, deeds=8):
    """Towns after some deeds."""
    chance = random.Random(59)
    pools = pools_up_to(4, 3)
    for _ in range(many):
        town = Town(chance.choice(splits_in_order(chance.choice(pools), chance.randint(1, 4))))
        for _ in range(deeds):
            try:
                random_deed(chance, town)
            except PurseError:
                pass
        yield town


class Towns(Case):
    def test_a_new_town(self):
        town = Town([[2], [], [1, 1]])
        self.same(town.purses, SPLIT)
        self.same(town.log, ())
        self.same(town.coins_now, (1, 1, 2))
        self.same(town.worths_now, (2, 0, 2))
        self.assertIs(town.is_served, True)
        self.assertEqual(len(town), 0)
        self.assertEqual(list(town), [])
        self.assertIs(Town(((2,), (2,))).is_served, False)
        self.assertIs(Town(((2, 5),)).is_served, True)
        self.same(Town([[]]).coins_now, ())

    def test_properties_tell_of_all_splits(self):
        for pool in pools_up_to(3, 3):
            for people in range(1, 6):
                for split in splits_in_order(pool, people)[::5]:
                    town = Town(split)
                    self.assertEqual(seen_of(town), (
                        split, (), pool, worths_by_purses(split), serves_by_formula(pool, people), 0, []))

    def test_wrong_splits(self):
        self.fails(BadSplit, (0, "many"), Town, ())
        self.fails(BadSplit, (0, "many"), Town, ((),) * 6)
        self.fails(BadSplit, (1, "purse"), Town, ((), (True,)))
        self.fails(BadSplit, (1, "coins"), Town, ((1,) * 12, (1,)))

    def test_what_is_passed_in_is_neither_changed_nor_kept(self):
        split, debt, way = [[2], [], [1, 1]], [0, 1, 2], [[], [2], [1, 1]]
        exchange, lot = [1, 2, [2], [1, 1]], [1]
        town = Town(split)
        town.pay(debt, way)
        town.exchange_lots(exchange)
        town.come(lot)
        self.assertEqual([split, debt, way], [[[2], [], [1, 1]], [0, 1, 2], [[], [2], [1, 1]]])
        self.assertEqual([exchange, lot], [[1, 2, [2], [1, 1]], [1]])
        before = seen_of(town)
        for told in (split, debt, way, exchange, lot):
            told.clear()
        self.assertEqual(seen_of(town), before)
        self.same(town.log, (("pay", (0, 1, 2)), ("exchange", (1, 2, (2,), (1, 1))), ("come", (1,))))


class Deeds(Case):
    def refused(self, error, attributes, method, *told):
        """The call raises this error and changes nothing."""
        town = method.__self__
        before = seen_of(town), taken_back(town)
        self.fails(error, attributes, method, *told)
        self.assertEqual((seen_of(town), taken_back(town)), before)

    def test_pay(self):
        unpaid = 0
        for pool in pools_up_to(3, 3):
            for people in (2, 3):
                for split in splits_in_order(pool, people)[::2]:
                    for debt in debts_by_worths(split):
                        ways = ways_by_splits(split, debt)
                        town = Town(split)
                        for way in ways:
                            self.same(Town(split).pay(list(debt), listed(way)), way)
                            self.same(Town(split).pay(debt, way=way), way)
                        if not ways:
                            self.refused(CannotPay, (), town.pay, debt)
                            self.refused(CannotPay, (), town.pay, debt, None)
                            unpaid += 1
                            continue
                        self.same(town.pay(list(debt)), first_way(split, debt))
                        self.same(town.purses, ways[0])
                        self.same(town.log, (("pay", debt),))
                        self.assertEqual(town.coins_now, pool)
        self.assertGreater(unpaid, 0)

    def test_pay_refused(self):
        town = Town(SPLIT)
        self.refused(BadDebt, ("debt",), town.pay, None)
        self.refused(BadDebt, ("debt",), town.pay, (0, 1, True), ())
        self.refused(BadDebt, ("persons",), town.pay, (0, 3, 1))
        self.refused(BadDebt, ("amount",), town.pay, (1, 0, 1), 5)
        for way, word in ((0, "purses"), ((), "purses"), (((0,), (), ()), "purses"), (((), (2,)), "people"), (
                ((), (2,), (1,)), "pool"), (((), (1, 1), (2,)), "others"), (SPLIT, "worths")):
            self.refused(BadWay, (word,), town.pay, DEBT, way)
        # A way is told, but there is none.
        self.refused(BadWay, ("worths",), town.pay, (0, 1, 1), SPLIT)
        self.refused(CannotPay, (), town.pay, (0, 1, 1))
        self.same(town.pay(DEBT), ((), (2,), (1, 1)))

    def test_exchange_lots(self):
        for pool in pools_up_to(4, 3):
            for people in (2, 3):
                for split in splits_in_order(pool, people)[::3]:
                    for exchange in exchanges_by_lots(split):
                        town = Town(split)
                        self.same(town.exchange_lots(listed(exchange)), handed(split, *exchange))
                        self.same(town.purses, handed(split, *exchange))
                        self.same(town.log, (("exchange", exchange),))
                        self.assertEqual(town.worths_now, worths_by_purses(split))
        town = Town(SPLIT)
        for told, word in ((None, "exchange"), ((2, 0, (), ()), "persons"), ((0, 2, (1,), ()), "lot"), (
                (0, 2, (2,), (2,)), "back"), ((0, 2, (2,), (1,)), "sums")):
            self.refused(BadExchange, (0, word), town.exchange_lots, told)
        self.refused(BadExchange, (0, "alike"), Town(((1,), (1,))).exchange_lots, (0, 1, (1,), (1,)))

    def test_leave(self):
        for pool in pools_up_to(4, 3):
            for people in range(1, 6):
                for split in splits_in_order(pool, people)[::11]:
                    for person in range(people):
                        town = Town(split)
                        if people == 1 or not town.is_served:
                            self.refused(CannotLeave, (person,), town.leave, person)
                            continue
                        worths = worths_by_purses(split)
                        lot = leaves(pool, people, worths[person])
                        others = worths[:person] + worths[person + 1:]
                        self.same(town.leave(person), lot)
                        self.same(town.purses, greatest_first(rest_by_counts(pool, lot), others))
                        self.same(town.worths_now, others)
                        self.same(town.log, (("leave", person, lot),))
                        self.assertIs(town.is_served, True)
        town = Town(SPLIT)
        for person in (None, True, False, -1, 3, "0", (0,)):
            self.refused(BadPerson, (), town.leave, person)
        self.refused(BadPerson, (), Town(((1,),)).leave, 1)
        self.refused(CannotLeave, (0,), Town(((2,), (2,))).leave, 0)
        # This worth leaves, but the pool does not serve the people.
        town = Town(((2,), (2,), (1,)))
        self.assertEqual(leaves((1, 2, 2), 3, 2), (2,))
        self.refused(CannotLeave, (1,), town.leave, 1)
        # The lot need not be the own purse.
        town = Town(((1, 1), (2,), ()))
        self.same(town.leave(0), (2,))
        self.same(town.purses, ((1, 1), ()))

    def test_come(self):
        came, stayed = 0, 0
        for pool in pools_up_to(3, 3):
            for people in range(1, 6):
                for split in splits_in_order(pool, people)[::17]:
                    for lot in ((), (1,), (2,), (1, 2), (5,), (1, 1, 1)):
                        town = Town(split)
                        together = tuple(sorted(pool + lot))
                        if people == 5 or not serves_by_formula(together, people + 1):
                            self.refused(CannotCome, (), town.come, lot)
                            stayed += 1
                            continue
                        self.assertEqual(town.come(list(lot)[::-1]), people)
                        self.same(town.purses, split + (lot,))
                        self.same(town.log, (("come", lot),))
                        came += not serves_by_formula(pool, people)
        self.assertGreater(came, 0)
        self.assertGreater(stayed, 0)

    def test_come_refused(self):
        town = Town(SPLIT)
        for lot in (None, 1, "1", {1}, (1,) * 13):
            self.refused(BadPool, (0, "many"), town.come, lot)
        self.refused(BadPool, (1, "coin"), town.come, (1, 0))
        self.refused(CannotCome, (), town.come, (9,))
        self.refused(CannotCome, (), Town(((1,) * 6, (1,) * 6)).come, (1,))
        self.refused(CannotCome, (), Town(((1,),) * 5).come, ())
        self.refused(BadPool, (0, "many"), Town(((1,),) * 5).come, None)
        self.assertEqual(Town(((1,) * 6, (1,) * 5)).come((1,)), 2)
        self.assertEqual(Town(((1,),) * 4).come(()), 4)
        # The newcomer brings what the town lacked.
        town = Town(((1,), (3,)))
        self.assertIs(town.is_served, False)
        self.assertEqual(town.come((1, 2)), 2)
        self.assertIs(town.is_served, True)

    def test_what_holds_for_served_towns(self):
        chance = random.Random(61)
        left = 0
        for town in random_towns(300):
            if not town.is_served:
                continue
            for _ in range(6):
                try:
                    random_deed(chance, town)
                except PurseError:
                    pass
                self.assertIs(town.is_served, True)
                for person in range(len(town.purses)):
                    worths = town.worths_now
                    if len(worths) > 1:
                        with town.trial():
                            town.leave(person)
                            self.assertEqual(town.worths_now, worths[:person] + worths[person + 1:])
                            left += 1
        self.assertGreater(left, 0)

    def test_the_log_has_all_deeds_in_order(self):
        town = Town(SPLIT)
        town.pay([0, 1, 2])
        town.exchange_lots([1, 2, [2], [1, 1]])
        self.assertEqual(town.come([1]), 3)
        self.same(town.leave(2), (2,))
        deeds = (("pay", (0, 1, 2)), ("exchange", (1, 2, (2,), (1, 1))), ("come", (1,)), ("leave", 2, (2,)))
        self.same(town.log, deeds)
        self.assertEqual(list(town), list(deeds))
        self.assertEqual([deed for deed in town] + [deed for deed in town], list(deeds) * 2)
        self.assertEqual(len(town), 4)
        for town in random_towns(60):
            self.assertEqual(tuple(town), town.log)
            self.assertEqual(len(town), len(town.log))
            self.assertFalse(has_list((town.purses, town.log, town.coins_now, town.worths_now)))


class Back(Case):
    def test_all_deeds_one_by_one(self):
        chance = random.Random(67)
        longest = 0
        for pool in pools_up_to(4, 3)[::3]:
            for people in (1, 2, 3, 4):
                town = Town(chance.choice(splits_in_order(pool, people)))
                rows = [seen_of(town)]
                for _ in range(10):
                    try:
                        random_deed(chance, town)
                    except PurseError:
                        self.assertEqual(seen_of(town), rows[-1])
                        continue
                    rows.append(seen_of(town))
                longest = max(longest, len(rows))
                while len(rows) > 1:
                    deed = rows[-1][1][-1]
                    rows.pop()
                    self.same(town.take_back(), deed)
                    self.assertEqual(seen_of(town), rows[-1])
                self.fails(CannotTakeBack, (), town.take_back)
                self.assertEqual(seen_of(town), rows[0])
        self.assertGreater(longest, 6)

    def test_deeds_behind_one_that_was_taken_back(self):
        town = Town(SPLIT)
        town.pay(DEBT)
        self.same(town.take_back(), ("pay", DEBT))
        town.exchange_lots((0, 2, (2,), (1, 1)))
        town.pay((0, 1, 1))
        self.same(town.log, (("exchange", (0, 2, (2,), (1, 1))), ("pay", (0, 1, 1))))
        self.same(town.take_back(), ("pay", (0, 1, 1)))
        self.same(town.take_back(), ("exchange", (0, 2, (2,), (1, 1))))
        self.assertEqual(town.purses, SPLIT)
        self.fails(CannotTakeBack, (), town.take_back)


class Trials(Case):
    def test_everything_is_as_it_was(self):
        chance = random.Random(71)
        for town in random_towns(120):
            before = seen_of(town), taken_back(town)
            with town.trial() as held:
                self.assertIs(held, town)
                for _ in range(5):
                    try:
                        random_deed(chance, town)
                    except PurseError:
                        pass
                # Also deeds from before the trial are taken back in it.
                for _ in range(chance.randint(0, len(town))):
                    town.take_back()
            self.assertEqual((seen_of(town), taken_back(town)), before)

    def test_an_error_goes_on(self):
        town = Town(SPLIT)
        town.pay(DEBT)
        before = seen_of(town), taken_back(town)
        for error in (KeyError, ZeroDivisionError, PurseError, KeyboardInterrupt):
            with self.assertRaises(error):
                with town.trial():
                    town.come((1,))
                    raise error("own")
            self.assertEqual((seen_of(town), taken_back(town)), before)
        with self.assertRaises(CannotTakeBack):
            with town.trial() as held:
                held.take_back()
                held.take_back()
        self.assertEqual((seen_of(town), taken_back(town)), before)

    def test_trials_within_trials(self):
        town = Town(SPLIT)
        town.pay(DEBT)
        outer = seen_of(town), taken_back(town)
        with town.trial():
            town.come((1,))
            inner = seen_of(town), taken_back(town)
            with town.trial():
                town.leave(0)
                town.take_back()
                town.take_back()
                town.take_back()
                self.assertEqual(town.log, ())
                with self.assertRaises(KeyError):
                    with town.trial():
                        town.exchange_lots((0, 2, (2,), (1, 1)))
                        raise KeyError
                self.assertEqual(town.log, ())
                self.assertEqual(town.purses, SPLIT)
            self.assertEqual((seen_of(town), taken_back(town)), inner)
            self.assertEqual(town.tried(lambda tried: (tried.take_back(), tried.take_back())), (
                ("come", (1,)), ("pay", DEBT)))
            self.assertEqual((seen_of(town), taken_back(town)), inner)
        self.assertEqual((seen_of(town), taken_back(town)), outer)
        self.same(town.take_back(), ("pay", DEBT))

    def test_a_trial_begins_when_its_block_is_entered(self):
        town = Town(SPLIT)
        trial = town.trial()
        town.pay(DEBT)
        with trial:
            town.come((1,))
        self.assertEqual(town.log, (("pay", DEBT),))
        with trial:
            town.take_back()
        self.assertEqual(town.log, (("pay", DEBT),))

    def test_tried_returns_what_the_function_returns(self):
        town = Town(SPLIT)
        calls = []

        def call(tried):
            calls.append(tried)
            tried.pay(DEBT)
            return tried.purses, calls

        told = town.tried(call)
        self.assertEqual(told[0], ((), (2,), (1, 1)))
        self.assertIs(told[1], calls)
        self.assertEqual(len(calls), 1)
        self.assertIs(calls[0], town)
        self.assertEqual(seen_of(town), seen_of(Town(SPLIT)))
        for value in (None, 1, 0, True, "", ()):
            self.assertIs(town.tried(lambda tried: value), value)

    def test_tried_raises_what_the_function_raises(self):
        town = Town(SPLIT)

        def call(tried):
            tried.pay(DEBT)
            raise KeyError(tried)

        with self.assertRaises(KeyError) as caught:
            town.tried(call)
        self.assertIs(caught.exception.args[0], town)
        self.assertEqual(seen_of(town), seen_of(Town(SPLIT)))
        self.fails(CannotPay, (), town.tried, lambda tried: tried.pay((0, 1, 1)))
        self.assertEqual(seen_of(town), seen_of(Town(SPLIT)))

    def test_a_block_may_return_out_of_a_trial(self):
        def worths(town):
            with town.trial():
                town.pay(DEBT)
                return town.worths_now

        town = Town(SPLIT)
        self.assertEqual(worths(town), (0, 2, 2))
        self.assertEqual(seen_of(town), seen_of(Town(SPLIT)))

    def test_great_towns_are_answered_at_once(self):
        with at_once():
            town = Town(((COIN,) * 6, (COIN - 1,) * 6))
            for _ in range(3):
                town.pay((0, 1, COIN))
                town.pay((1, 0, COIN - 1))
            self.assertEqual(len(town), 6)
            town = Town((tuple(1 << at for at in range(12)), ()))
            for amount in (1, 1023, 5):
                town.pay((0, 1, amount))
            self.assertEqual(town.worths_now, (4095 - 1029, 1029))
            self.assertEqual(sum(town.leave(0)), 4095 - 1029)
            self.assertEqual(pool_by_purses(town.purses), town.coins_now)


if __name__ == "__main__":
    unittest.main()
