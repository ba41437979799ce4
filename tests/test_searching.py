"""2.6 and 2.7: layers of lacks, a split for any wish, and the wishes that are given."""

import copy
import random
import unittest

from anyworths.errors import TooMany
from anyworths.greedy import Stuck, greatest_first
from anyworths.searching import NoSplit, any_split, first_missing, given_wishes, layers_fault, layers_of
from anyworths.searching import misled_wish, wishes_given
from anyworths.serving import serves
from tests.roads import Case, at_once, listed, pools_up_to, run, splits_by_owners, wishes_by_bars, worths_by_owners

COIN = 10 ** 9
SMALL = [(pool, people) for pool in pools_up_to(4, 3) for people in range(1, 4)]
SMALL += [(pool, people) for pool in pools_up_to(3, 3) for people in (4, 5)]
SMALL += [((1, 1, 4, 4), 3), ((2, 3, 5, 7), 2), ((1, 3, 3, 4, 6), 3)]
CASES = [(pool, wish) for pool, people in SMALL for wish in wishes_by_bars(sum(pool), people)]
GREAT = tuple(range(COIN - 11, COIN + 1))
# Some layer of these has just 400 entries, and no layer has more.
JUST_LAYERS = [
    ((10, 10, 10, 12, 13, 13, 15, 15, 16, 17, 31, 36), (51, 56, 37, 29, 25)),
    ((11, 11, 11, 13, 14, 14, 17, 17, 18, 19, 22), (26, 31, 44, 34, 32)),
]
# Some layer of these has 401 entries.
MANY_LAYERS = [
    ((10, 10, 10, 11, 12, 13, 13, 14, 15, 17, 20), (42, 34, 40, 29)),
    ((10, 10, 11, 11, 11, 12, 12, 13, 13, 14, 14, 16), (35, 38, 40, 34)),
]
# The greatest coins of these have at some moment just 400 unlike worths, and never more.
JUST_GIVEN = [((1, 3, 4, 8, 8, 8, 13, 15, 17), 3), ((2, 2, 3, 6, 6, 8, 8, 16), 4)]
# The greatest coins of these have at some moment 401 unlike worths.
MANY_GIVEN = [
    ((1, 1, 4, 6, 9, 10, 17), 5), ((1, 1, 2, 2, 2, 3, 5, 6, 14, 14, 17), 3), ((1, 2, 3, 3, 3, 4, 9, 13), 4),
]


def layers_by_splits(pool, wish):
    """The layers, by all splits of the greatest coins."""
    layers = []
    for many in range(len(pool) + 1):
        lacks = [
            [number - worth for number, worth in zip(wish, worths)]
            for worths in worths_by_owners(pool[len(pool) - many:], len(wish))
        ]
        layers.append(tuple(sorted({tuple(sorted(row)) for row in lacks if min(row) >= 0})))
        if not layers[-1]:
            break
    return tuple(layers)


class Layers(Case):
    def test_all_lacks_that_can_stand(self):
        for pool, wish in CASES:
            self.same(layers_of(pool[::-1], list(wish)), layers_by_splits(pool, wish))

    def test_told_layers(self):
        self.same(layers_of((1, 2), (1, 2)), (((1, 2),), ((0, 1),), ((0, 0),)))
        self.same(layers_of([2, 1], [2, 1]), (((1, 2),), ((0, 1),), ((0, 0),)))
        self.same(layers_of((2, 2, 2), (3, 3)), (((3, 3),), ((1, 3),), ((1, 1),), ()))
        self.same(layers_of((), (0, 0)), (((0, 0),),))
        self.same(layers_of((5,), (5,)), (((5,),), ((0,),)))
        self.same(layers_of((1, 5), (3, 3)), (((3, 3),), ()))

    def test_at_most_four_hundred_entries(self):
        for pool, wish in JUST_LAYERS:
            self.assertEqual(max(len(layer) for layer in layers_of(pool, wish)), 400)
            self.assertIsInstance(any_split(pool, wish), (tuple, NoSplit))
        for pool, wish in MANY_LAYERS:
            self.fails(TooMany, (400,), layers_of, pool, wish)
            self.fails(TooMany, (400,), any_split, pool, wish)

    def test_twelve_great_coins(self):
        with at_once():
            wish = (sum(GREAT[:3]), sum(GREAT[3:5]), sum(GREAT[5:7]), sum(GREAT[7:9]), sum(GREAT[9:]))
            for function in (layers_of, any_split):
                self.fails(TooMany, (400,), function, GREAT, wish)
            self.assertEqual(len(layers_of([COIN] * 12, (3 * COIN,) * 4)), 13)


class AnySplit(Case):
    def test_a_split_exactly_if_one_meets_the_wish(self):
        for pool, people in SMALL:
            meeting = {}
            for split in splits_by_owners(pool, people):
                meeting.setdefault(tuple(sum(purse) for purse in split), []).append(split)
            for wish in wishes_by_bars(sum(pool), people):
                result = any_split(pool[::-1], list(wish))
                if wish in meeting:
                    self.assertIn(result, meeting[wish])
                    self.same(result, result)
                else:
                    self.same(result, NoSplit(layers_by_splits(pool, wish)))

    def test_wishes_at_which_greatest_first_sticks(self):
        for pool, wish in [((2, 2, 2, 3, 3), (6, 6)), ((3, 3, 4, 4, 4), (12, 6)), ((3, 3, 3, 4, 5), (9, 9))]:
            self.assertIsInstance(greatest_first(pool, wish), Stuck)
            result = any_split(pool, wish)
            self.assertEqual(tuple(sum(purse) for purse in result), wish)
            self.assertEqual(tuple(sorted(coin for purse in result for coin in purse)), pool)

    def test_layers_of_just_four_hundred_entries(self):
        for pool, wish in JUST_LAYERS:
            result = any_split(pool, wish)
            if isinstance(result, NoSplit):
                self.assertIsNone(layers_fault(pool, wish, result.layers))
            else:
                self.assertEqual(tuple(sum(purse) for purse in result), wish)

    def test_edges(self):
        self.same(any_split((), (0,)), ((),))
        self.same(any_split([], [0] * 5), ((),) * 5)
        self.same(any_split([COIN] * 12, [12 * COIN]), ((COIN,) * 12,))


class LayersJudged(Case):
    def test_layers_without_fault_exist_exactly_if_no_split_meets_the_wish(self):
        for pool, wish in CASES:
            layers = layers_of(pool, wish)
            self.assertEqual(layers_fault(pool[::-1], list(wish), layers), "last" if layers[-1] else None)
            if layers[-1]:
                self.assertEqual(layers_fault(pool, wish, layers + ((),)), "many")
                self.assertEqual(layers_fault(pool, wish, layers[:-1]), "last" if pool else "form")
                for at in range(len(layers)):
                    emptied = layers[:at] + ((),) + layers[at + 1:]
                    self.assertEqual(layers_fault(pool, wish, emptied), "next" if at else "first")

    def test_each_entry_that_is_left_out_is_missed(self):
        for pool, wish in CASES:
            layers = layers_of(pool, wish)
            if not layers[-1]:
                for at, layer in enumerate(layers):
                    for place in range(len(layer)):
                        told = layers[:at] + (layer[:place] + layer[place + 1:],) + layers[at + 1:]
                        self.assertEqual(layers_fault(pool, wish, told), "next" if at else "first")

    def test_further_entries_duplicates_and_orders_are_no_fault(self):
        layers = layers_of((2, 2, 2), (3, 3))
        self.assertIsNone(layers_fault((2, 2, 2), (3, 3), [list(layer) for layer in layers]))
        self.assertIsNone(layers_fault((2, 2, 2), (3, 3), layers[:-1] + ([],)))
        more = ([(3, 3), (1, 1), (3, 3)], [(1, 3), (0, 1), (1, 1)], ((1, 1), (0, 0), (1, 1)), ())
        self.assertIsNone(layers_fault((2, 2, 2), (3, 3), more))
        more[0].append((2, 9))
        self.assertEqual(layers_fault((2, 2, 2), (3, 3), more), "next")
        more[1].extend([(2, 7), (0, 9)])
        self.assertEqual(layers_fault((2, 2, 2), (3, 3), more), "next")

    def test_layers_that_go_on_behind_an_empty_one(self):
        self.assertIsNone(layers_fault((1, 5), (3, 3), (((3, 3),), ())))
        self.assertIsNone(layers_fault((1, 5), (3, 3), (((3, 3),), (), ())))
        self.assertIsNone(layers_fault((1, 5), (3, 3), (((3, 3),), ((0, 0),), ())))
        self.assertEqual(layers_fault((1, 5), (3, 3), (((3, 3),), ((0, 1),), ())), "next")
        self.assertEqual(layers_fault((1, 5), (3, 3), (((3, 3),), ((0, 1),), ((0, 0),))), "last")
        self.assertEqual(layers_fault((1, 5), (3, 3), (((3, 3),), (), (), ())), "many")

    def test_forms(self):
        wrong = [None, (), [], "33", {}, 3, [None], ["33"], [{}], [[None]], [[[3, 3]]], [[(3,)]], [[(3, 3, 3)]], [[()]]]
        wrong += [[[(3, True)]], [[(-1, 7)]], [[(4, 2)]], [[("3", "3")]], [[(3, 3)], [(1, 3), None]]]
        wrong += [[[(3, 3)], [(1.0, 3)]], [[(3, 3)], [], None], [[(3, 3)], {}]]
        for layers in wrong:
            self.assertEqual(layers_fault((2, 2, 2), (3, 3), layers), "form")
        self.assertEqual(layers_fault((1,), (1,), [[(1,)], [(False,)]]), "form")

    def test_of_several_words_the_first_is_told(self):
        self.assertEqual(layers_fault((2,), (2,), [[], [], [], [[2]]]), "form")
        self.assertEqual(layers_fault((2,), (2,), [[], [(9,)], [(9,)]]), "many")
        self.assertEqual(layers_fault((2,), (2,), [[(4,)], []]), "first")
        self.assertEqual(layers_fault((2,), (2,), [[(2,)], [(9,)]]), "next")
        self.assertEqual(layers_fault((2,), (2,), [[(2,)], [(0,)]]), "last")
        self.assertEqual(layers_fault((2,), (2,), [[(2,)]]), "last")

    def test_the_wish_in_any_order(self):
        layers = layers_of((1, 5), (2, 4))
        self.assertIsNone(layers_fault((1, 5), (4, 2), layers))
        self.assertEqual(layers_fault((1, 5), (3, 3), layers), "first")

    def test_what_is_judged_is_not_changed(self):
        told = listed(layers_of((2, 2, 2), (3, 3)))
        before = copy.deepcopy(told)
        layers_fault((2, 2, 2), (3, 3), told)
        self.assertEqual(told, before)


class Given(Case):
    def test_all_given_wishes_once_ascending(self):
        for pool, people in SMALL:
            given = sorted(worths_by_owners(pool, people))
            self.assertEqual(list(given_wishes(pool[::-1], people)), given)
            self.assertEqual(wishes_given(list(pool), people), len(given))

    def test_all_wishes_are_given_exactly_if_the_pool_serves(self):
        for pool, people in SMALL:
            wishes = wishes_by_bars(sum(pool), people)
            self.assertEqual(wishes_given(pool, people) == len(wishes), serves(pool, people) is None)

    def test_the_first_missing_wish(self):
        for pool, people in SMALL:
            given = worths_by_owners(pool, people)
            missing = [wish for wish in wishes_by_bars(sum(pool), people) if wish not in given]
            self.assertEqual(first_missing(pool[::-1], people), missing[0] if missing else None)
        self.same(first_missing((1, 2, 2), 3), (1, 1, 3))

    def test_the_first_misled_wish(self):
        found = 0
        pools = SMALL + [((2, 2, 2, 3, 3), 2), ((3, 3, 4, 4, 4), 2), ((1, 3, 3, 3, 5, 5), 3), ((2, 2, 3, 3, 3), 3)]
        for pool, people in pools:
            misled = [
                wish for wish in sorted(worths_by_owners(pool, people))
                if isinstance(greatest_first(pool, wish), Stuck)
            ]
            self.assertEqual(misled_wish(list(pool)[::-1], people), misled[0] if misled else None)
            found += bool(misled)
        self.assertGreater(found, 2)

    def test_at_most_four_hundred_unlike_worths(self):
        for pool, people in JUST_GIVEN:
            given = worths_by_owners(pool, people)
            self.assertEqual(wishes_given(pool, people), len(given))
            self.assertEqual(list(given_wishes(pool, people)), sorted(given))
            run(first_missing, pool, people)
            run(misled_wish, pool, people)
        for pool, people in MANY_GIVEN:
            for function in (given_wishes, wishes_given, first_missing, misled_wish):
                self.fails(TooMany, (400,), function, pool, people)

    def test_edges(self):
        for people in range(1, 6):
            self.assertEqual(list(given_wishes((), people)), [(0,) * people])
            self.assertEqual(wishes_given((), people), 1)
            self.assertIsNone(first_missing((), people))
            self.assertIsNone(misled_wish((), people))
            self.assertEqual(wishes_given((1,), people), people)
        self.assertEqual(list(given_wishes(GREAT, 1)), [(sum(GREAT),)])
        self.assertIsNone(first_missing(GREAT, 1))

    def test_twelve_great_coins(self):
        with at_once():
            self.assertEqual(wishes_given([COIN] * 12, 5), 1820)
            self.same(first_missing([COIN] * 12, 5), (0, 0, 0, 1, 12 * COIN - 1))
            self.assertIsNone(misled_wish([COIN] * 12, 5))
            for function in (given_wishes, wishes_given, first_missing, misled_wish):
                self.fails(TooMany, (400,), function, GREAT, 5)
            self.assertIsNone(first_missing((1, 1, 1, 1, 2, 2, 2, 2, 3, 3, 3, 3), 2))

    def test_greater_pools_by_chance(self):
        chance = random.Random(2)
        for _ in range(40):
            people = chance.randint(2, 4)
            pool = tuple(sorted(chance.randint(1, 6) for _ in range(6)))
            given = sorted(worths_by_owners(pool, people))
            self.assertEqual(list(given_wishes(pool, people)), given)
            for wish in chance.sample(given, 3):
                self.same(layers_of(pool, wish), layers_by_splits(pool, wish))
                self.assertEqual(tuple(sum(purse) for purse in any_split(pool, wish)), wish)


if __name__ == "__main__":
    unittest.main()
