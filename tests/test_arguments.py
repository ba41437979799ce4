"""0.4, 0.5 and 0.7: every argument of every function, wrong and right, in the told order."""

import copy
import unittest

from anyworths import debttext, greedy, holding, leastpools, lots, mints, nextcoins, pools, rations, searching
from anyworths import serving, splits, splittext, wishes
from anyworths.errors import BadAmount, BadCoin, BadCount, BadDebts, BadKinds, BadMost, BadNumber, BadOrder
from anyworths.errors import BadPeople, BadPerson, BadPool, BadRation, BadSplit, BadText, BadTotal, BadUnlike
from anyworths.errors import BadWish
from tests.roads import Case, has_list, listed, run

COIN = 10 ** 9
AMOUNT = 12 * 10 ** 9
NO_SEQUENCES = (None, True, 7, "112", "", {}, {1: 1}, {1, 2}, range(2), b"12", iter(()))
NO_NUMBERS = (None, True, False, "1", "", 1.0, {}, [1], (1,), b"1")


def whole(low, high, error, *attributes):
    """The wrong things in the place of a number from low to high."""
    return [(thing, error, attributes) for thing in NO_NUMBERS + (low - 1, high + 1)]


def pool_faults(error=BadPool):
    """The wrong things in the place of a pool."""
    faults = [(thing, error, (0, "many")) for thing in NO_SEQUENCES + ((1,) * 13, [1] * 14, (None,) * 13)]
    for thing in NO_NUMBERS + (0, -1, COIN + 1):
        faults.append(([thing], error, (0, "coin")))
        faults.append(((1, thing, 2), error, (1, "coin")))
        faults.append(((1, 2, COIN, thing, None), error, (3, "coin")))
    return faults


def wish_faults(total, people):
    """The wrong things in the place of a wish of so many people with this total."""
    faults = [(thing, BadWish, (0, "many")) for thing in NO_SEQUENCES + ((), [], (0,) * 6, (None,) * 6)]
    for thing in NO_NUMBERS + (-1, AMOUNT + 1):
        faults.append(((thing, total), BadWish, (0, "number")))
        faults.append(([total, thing, None], BadWish, (1, "number")))
    faults.append(((0,) * people, BadWish, (people, "sum")))
    faults.append(((total, 0, 1), BadWish, (3, "sum")))
    faults.append(([total - 1], BadWish, (1, "sum")))
    return faults


def split_faults():
    """The wrong things in the place of a split that stands alone."""
    faults = [(thing, BadSplit, (0, "many")) for thing in NO_SEQUENCES + ((), [], ((),) * 6, [None] * 6)]
    for thing, _, _ in pool_faults():
        faults.append(([thing, ()], BadSplit, (0, "purse")))
        faults.append((((1,), [], thing, None), BadSplit, (2, "purse")))
    faults.append((((1,) * 7, (1,) * 6, None), BadSplit, (1, "coins")))
    faults.append(([[1] * 12, [], [2]], BadSplit, (2, "coins")))
    return faults


def ration_faults(total):
    """The wrong things in the place of a ration of a pool with this total."""
    faults = [(thing, BadRation, (0, "many")) for thing in NO_SEQUENCES + ((), [], (0,) * 6, [None] * 6)]
    for thing in NO_NUMBERS + (-1, -AMOUNT):
        faults.append(((thing, total + 1), BadRation, (0, "number")))
        faults.append(([total, thing, None], BadRation, (1, "number")))
    faults.append(((total + 1, None), BadRation, (0, "sum")))
    faults.append(([0, 10 ** 30], BadRation, (1, "sum")))
    faults.append(((1, total - 1, 0, 1), BadRation, (3, "sum")))
    return faults


def kinds_faults():
    """The wrong things in the place of the kinds of a mint."""
    many = NO_SEQUENCES + ((), [], (1, 2, 3, 4, 5, 6, 7), [None] * 7)
    faults = [(thing, BadKinds, (0, "many")) for thing in many]
    for thing in NO_NUMBERS + (0, -1, COIN + 1):
        faults.append(([thing], BadKinds, (0, "kind")))
        faults.append(((2, 1, thing, 2), BadKinds, (2, "kind")))
    faults.append(((1, 1, None), BadKinds, (1, "twice")))
    faults.append(([3, 1, 2, 3], BadKinds, (3, "twice")))
    return faults


def debts_faults():
    """The wrong things in the place of bare debts."""
    good = (0, 1, 1)
    faults = [(thing, BadDebts, (0, "many")) for thing in NO_SEQUENCES + ((good,) * 13, [None] * 13)]
    wrong = NO_SEQUENCES + ((), (0, 1), (0, 1, 1, 1), (1, 1, 1), (0, 1, 0), (0, 1, AMOUNT + 1), (0, 5, 1), (-1, 0, 1))
    for thing in NO_NUMBERS:
        wrong += ((thing, 1, 1), (0, thing, 1), [0, 2, thing])
    for thing in wrong:
        faults.append(([thing], BadDebts, (0, "debt")))
        faults.append(((good, [1, 0, 2], thing, None), BadDebts, (2, "debt")))
    return faults


def order_faults(people):
    """The wrong things in the place of an order of so many persons."""
    names = tuple(range(people))
    wrong = NO_SEQUENCES + ((), names[1:], names + (people,), names[1:] + (people,), (0,) * people, (-1,) + names[1:])
    wrong += tuple(names[:-1] + (thing,) for thing in NO_NUMBERS) + tuple((thing,) + names[1:] for thing in NO_NUMBERS)
    return [(thing, BadOrder, ()) for thing in wrong]


POOL = ((1, 1, 2), pool_faults())
PEOPLE = (3, whole(1, 5, BadPeople))
TWO_PEOPLE = (3, whole(2, 5, BadPeople))
AMOUNTS = (2, whole(0, AMOUNT, BadAmount))
SPLIT = (((2,), (), (1, 1)), split_faults())
WISH = ((3, 1, 0), wish_faults(4, 3))
TEXTS = [(thing, BadText, (0, "text")) for thing in (None, True, 7, b"1", ["1"], ("1",), {}, 1.0)]
KINDS = ((1, 3), kinds_faults())
FREE = []


def count_to(most):
    return 3, whole(0, most, BadCount, most)


def total_to(most):
    return 4, whole(0, most, BadTotal, most)


def first_able(coin, lacks):
    return [person for person, lack in enumerate(lacks) if lack >= coin][0]


CALLS = [
    (pools.check_pool, [POOL]),
    (pools.check_people, [PEOPLE]),
    (pools.check_people, [TWO_PEOPLE, (2, FREE)]),
    (pools.check_people, [(5, whole(5, 5, BadPeople)), (5, FREE)]),
    (pools.check_person, [(3, FREE), (2, whole(0, 2, BadPerson))]),
    (pools.check_person, [(1, FREE), (0, whole(0, 0, BadPerson))]),
    (pools.check_amount, [AMOUNTS]),
    (pools.check_amount, [(1, whole(1, AMOUNT, BadAmount)), (1, FREE)]),
    (pools.total_of, [POOL]),
    (pools.counted_coins, [POOL]),
    (lots.all_lots, [POOL]),
    (lots.lots_with, [POOL, AMOUNTS]),
    (lots.count_lots, [POOL]),
    (lots.lot_with, [POOL, AMOUNTS]),
    (lots.sums_of, [POOL]),
    (lots.has_lot, [POOL, ((1, 2), pool_faults())]),
    (lots.less_lot, [POOL, ((1, 2), pool_faults())]),
    (lots.joined_pools, [POOL, ((1, 2), pool_faults())]),
    (splits.check_purses, [SPLIT]),
    (splits.check_split, [POOL, PEOPLE, (((2,), (), (1, 1)), FREE)]),
    (splits.renamed_split, [SPLIT, ((2, 0, 1), order_faults(3))]),
    (splits.pool_of, [SPLIT]),
    (splits.worths_of, [SPLIT]),
    (splits.all_splits, [POOL, PEOPLE]),
    (splits.count_splits, [POOL, PEOPLE]),
    (splits.split_number, [SPLIT]),
    (splits.split_by_number, [POOL, PEOPLE, (7, whole(0, 17, BadNumber))]),
    (wishes.check_wish, [WISH, (4, FREE)]),
    (wishes.even_wish, [AMOUNTS, PEOPLE]),
    (wishes.all_wishes, [AMOUNTS, PEOPLE]),
    (wishes.count_wishes, [AMOUNTS, PEOPLE]),
    (splittext.coins_text, [POOL]),
    (splittext.split_text, [SPLIT]),
    (splittext.parse_coins, [("1 1 2", TEXTS)]),
    (splittext.parse_split, [("1 | - | 2", TEXTS)]),
    (debttext.wish_text, [((3, 1), [fault for fault in wish_faults(4, 3) if fault[2][1] != "sum"])]),
    (debttext.debts_text, [(((0, 1, 2), (3, 0, 1)), debts_faults())]),
    (debttext.parse_wish, [("3 1", TEXTS)]),
    (debttext.parse_debts, [("0 owes 1 2", TEXTS)]),
    (serving.failing_places, [POOL, PEOPLE]),
    (serving.serves, [POOL, PEOPLE]),
    (serving.most_people, [POOL]),
    (serving.most_people_row, [POOL]),
    (serving.short_room, [POOL, WISH]),
    (serving.unserved_fault, [POOL, PEOPLE, (serving.Unserved(0, (4, 0, 0)), FREE)]),
    (greedy.greatest_first, [POOL, WISH]),
    (greedy.hand_out, [POOL, WISH, (first_able, FREE)]),
    (greedy.giving_steps, [POOL, WISH]),
    (searching.layers_of, [POOL, WISH]),
    (searching.any_split, [POOL, WISH]),
    (searching.layers_fault, [POOL, WISH, (((), ()), FREE)]),
    (searching.given_wishes, [POOL, PEOPLE]),
    (searching.wishes_given, [POOL, PEOPLE]),
    (searching.first_missing, [POOL, PEOPLE]),
    (searching.misled_wish, [POOL, PEOPLE]),
    (holding.splits_for, [POOL, WISH]),
    (holding.count_splits_for, [POOL, WISH]),
    (holding.held_range, [POOL, WISH, (1, [(thing, BadCoin, ()) for thing in NO_NUMBERS + (0, 3, COIN + 1)])]),
    (rations.check_ration, [POOL, ((1, 2), ration_faults(4))]),
    (rations.greatest_ration, [POOL, PEOPLE]),
    (rations.serves_rations, [POOL, PEOPLE, (2, whole(0, 4, BadMost))]),
    (rations.hand_rations, [POOL, ((1, 2), ration_faults(4))]),
    (leastpools.room_of, [total_to(10 ** 12), TWO_PEOPLE]),
    (leastpools.greatest_total, [count_to(60), TWO_PEOPLE]),
    (leastpools.totals_row, [count_to(60), TWO_PEOPLE]),
    (leastpools.fewest_coins, [total_to(10 ** 9), TWO_PEOPLE]),
    (leastpools.greatest_coin, [total_to(10 ** 9), TWO_PEOPLE]),
    (leastpools.least_total_with, [(3, whole(1, COIN, BadCoin)), TWO_PEOPLE]),
    (leastpools.fewest_with, [(3, whole(1, COIN, BadCoin)), TWO_PEOPLE]),
    (leastpools.pool_for, [count_to(12), total_to(10 ** 9), TWO_PEOPLE]),
    (leastpools.all_pools, [count_to(12), total_to(36), TWO_PEOPLE]),
    (leastpools.count_pools, [count_to(12), total_to(36), TWO_PEOPLE]),
    (leastpools.all_least, [total_to(36), TWO_PEOPLE]),
    (leastpools.greatest_unlike, [count_to(12), (2, whole(1, 12, BadUnlike)), TWO_PEOPLE]),
    (nextcoins.room_row, [POOL, TWO_PEOPLE]),
    (nextcoins.fitting_coins, [POOL, TWO_PEOPLE]),
    (nextcoins.next_coin, [POOL, TWO_PEOPLE]),
    (nextcoins.may_put, [POOL, (3, whole(1, COIN, BadCoin)), TWO_PEOPLE]),
    (nextcoins.mending_coins, [POOL, TWO_PEOPLE]),
    (mints.check_kinds, [KINDS]),
    (mints.kinds_let, [KINDS, total_to(10 ** 12), TWO_PEOPLE]),
    (mints.greatest_from, [KINDS, count_to(12), TWO_PEOPLE]),
    (mints.all_minted, [KINDS, count_to(6), TWO_PEOPLE]),
    (mints.fewest_from, [KINDS, total_to(200), TWO_PEOPLE]),
    (mints.mint_fault, [KINDS, total_to(200), TWO_PEOPLE, (mints.NoMint(((0,), (1,))), FREE)]),
]
# What a function takes in another order of its items, and means the same by.
UNORDERED = (POOL, SPLIT, KINDS)


def turned(good, spec):
    """The same argument as lists, with its coins in another order."""
    if spec is SPLIT:
        return [list(purse)[::-1] for purse in good]
    return list(good)[::-1] if any(spec is one for one in UNORDERED) else listed(good)


class Arguments(Case):
    def test_each_wrong_argument_has_its_error(self):
        for function, specs in CALLS:
            good = [spec[0] for spec in specs]
            for at, (_, faults) in enumerate(specs):
                for thing, error, attributes in faults:
                    told = good[:at] + [thing] + good[at + 1:]
                    self.fails(error, attributes, function, *told)

    def test_of_two_wrong_arguments_the_first_is_told(self):
        for function, specs in CALLS:
            good = [spec[0] for spec in specs]
            for at, (_, faults) in enumerate(specs):
                later = [spec[1][::5] if spec[1] else [None] for spec in specs[at + 1:]]
                for thing, error, attributes in faults[::3]:
                    for behind, others in enumerate(later, at + 1):
                        for other in others:
                            told = list(good)
                            told[at] = thing
                            told[behind] = other[0] if other else None
                            self.fails(error, attributes, function, *told)

    def test_lists_in_any_order_do_as_well_as_tuples(self):
        for function, specs in CALLS:
            good = [spec[0] for spec in specs]
            others = [turned(spec[0], spec) for spec in specs]
            self.assertEqual(run(function, *good), run(function, *others), function)

    def test_what_is_passed_in_is_the_same_afterwards(self):
        for function, specs in CALLS:
            told = [turned(spec[0], spec) for spec in specs]
            before = copy.deepcopy(told)
            result = run(function, *told)
            self.assertEqual(told, before, function)
            kept = copy.deepcopy(result)
            for thing in told:
                if isinstance(thing, list):
                    for item in thing:
                        if isinstance(item, list):
                            item.clear()
                    thing.clear()
            self.assertEqual(result, kept, function)

    def test_what_is_returned_or_yielded_consists_of_tuples(self):
        for function, specs in CALLS:
            result = run(function, *[turned(spec[0], spec) for spec in specs])
            for item in result if isinstance(result, list) else [result]:
                self.assertFalse(has_list(item), function)

    def test_a_generator_goes_on_with_what_it_was_told_first(self):
        pool = [2, 1, 1]
        for function in (lots.all_lots, lambda told: splits.all_splits(told, 2)):
            told = list(pool)
            whole_row = list(function(pool))
            rows = function(told)
            first = next(rows)
            self.assertEqual([first] + list(rows), whole_row)
            self.assertEqual(told, pool)


if __name__ == "__main__":
    unittest.main()
