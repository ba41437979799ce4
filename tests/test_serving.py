"""2.1 to 2.3: how many people a pool serves, and wishes that are short of room."""

import unittest
from itertools import product

from anyworths.errors import BadWish
from anyworths.serving import Unserved, failing_places, most_people, most_people_row, serves, short_room
from anyworths.serving import unserved_fault
from tests.roads import Case, at_once, pools_up_to, serves_by_formula, wishes_by_bars, worths_by_owners

COIN = 10 ** 9
SMALL = [(pool, people) for pool in pools_up_to(4, 4) for people in range(1, 5)]
SMALL += [(pool, 5) for pool in pools_up_to(4, 3)] + [(pool, 3) for pool in pools_up_to(5, 3)]
GREAT = tuple(range(COIN - 11, COIN + 1))


def short_places(pool, wish):
    """The places at which a wish is short of room, by the words of the document."""
    return [
        place
        for place, coin in enumerate(pool)
        if sum(pool[place:]) > sum(number for number in wish if number >= coin)
    ]


class Serving(Case):
    def test_the_examples_of_the_document(self):
        self.assertIsNone(serves((1, 1, 2, 3, 4, 6), 3))
        self.same(serves([2, 1, 2], 3), Unserved(1, (3, 1, 1)))

    def test_a_pool_serves_exactly_if_every_wish_has_a_split(self):
        for pool, people in SMALL:
            given = worths_by_owners(pool, people)
            missing = [wish for wish in wishes_by_bars(sum(pool), people) if wish not in given]
            unserved = serves(list(pool)[::-1], people)
            self.assertEqual(unserved is None, not missing, (pool, people))
            self.assertEqual(unserved is None, failing_places(pool, people) == ())
            if unserved is not None:
                self.assertIn(unserved.wish, missing)
                self.assertEqual(unserved.place, failing_places(pool, people)[0])

    def test_failing_places(self):
        for pool, people in SMALL:
            # Rounded up, a sum is below the coin exactly if it is at most people times the coin less 1.
            failing = [place for place, coin in enumerate(pool) if sum(pool[:place + 1]) <= people * (coin - 1)]
            self.same(failing_places(pool[::-1], people), tuple(failing))
        self.same(failing_places([5, 1, 9, 1], 2), (2, 3))
        self.same(failing_places([5, 1, 9, 1], 5), (2, 3))
        self.same(failing_places([2, 2, 2], 4), (0, 1))

    def test_the_told_wish(self):
        self.same(serves((2,), 2), Unserved(0, (1, 1)))
        self.same(serves((2,), 5), Unserved(0, (1, 1, 0, 0, 0)))
        self.same(serves((1, 1, 4, 10), 3), Unserved(2, (12, 2, 2)))
        self.same(serves((1, 4, 1, 10), 4), Unserved(2, (12, 2, 1, 1)))
        self.same(serves((1, 1, 1, 3, 3), 4), Unserved(3, (5, 2, 1, 1)))

    def test_no_coins_and_one_person(self):
        for people in range(1, 6):
            self.assertIsNone(serves((), people))
            self.same(failing_places([], people), ())
        for pool in pools_up_to(3, 4) + [GREAT, (COIN,) * 12]:
            self.assertIsNone(serves(pool, 1))
            self.same(failing_places(pool, 1), ())

    def test_twelve_great_coins(self):
        with at_once():
            self.same(failing_places(GREAT, 5), (0, 1, 2, 3, 4))
            unserved = serves([COIN] * 12, 5)
            self.same(unserved, Unserved(0, (11 * COIN + COIN // 5,) + (COIN // 5,) * 4))
            self.assertIsNone(unserved_fault([COIN] * 12, 5, unserved))


class MostPeople(Case):
    def test_the_greatest_number_that_is_served(self):
        for pool in pools_up_to(4, 4):
            most = most_people(pool[::-1])
            for people in range(1, 6):
                served = len(worths_by_owners(pool, people)) == len(wishes_by_bars(sum(pool), people))
                self.assertEqual(served, most is None or people <= most, (pool, people))

    def test_numbers_beyond_five(self):
        for pool in pools_up_to(6, 3) + [(1,) * 11 + (2,), (1,) * 10 + (2, 3)]:
            most = most_people(pool)
            served = [people for people in range(1, 40) if serves_by_formula(pool, people)]
            self.assertEqual(served, list(range(1, 40 if most is None else most + 1)), pool)
        self.assertEqual(most_people((1,) * 11 + (2,)), 12)
        self.assertEqual(most_people((2,)), 1)

    def test_pools_that_serve_every_number(self):
        self.assertIsNone(most_people(()))
        self.assertIsNone(most_people((1,) * 12))
        self.assertEqual(most_people([COIN] * 12), 1)
        self.assertEqual(most_people([COIN]), 1)

    def test_the_row_of_the_least_coins(self):
        self.same(most_people_row(()), ())
        self.same(most_people_row([4, 2, 1, 1]), (None, None, 3, 2))
        for pool in pools_up_to(5, 4):
            row = most_people_row(pool[::-1])
            self.same(row, tuple(most_people(pool[:many]) for many in range(1, len(pool) + 1)))
            counted = [10 ** 9 if most is None else most for most in row]
            self.assertEqual(counted, sorted(counted, reverse=True))


class ShortOfRoom(Case):
    def test_the_first_place_that_is_short_of_room(self):
        for pool, people in SMALL:
            given = worths_by_owners(pool, people)
            for wish in wishes_by_bars(sum(pool), people):
                places = short_places(pool, wish)
                self.assertEqual(short_room(pool[::-1], list(wish)), places[0] if places else None)
                if places:
                    self.assertNotIn(wish, given)

    def test_a_wish_without_a_split_that_has_room(self):
        self.assertIsNone(short_room((2, 2, 2), (3, 3)))
        self.assertIsNone(short_room((), (0, 0)))
        self.fails(BadWish, (2, "sum"), short_room, (2, 2, 2), (3, 2))

    def test_great_coins(self):
        self.assertEqual(short_room([COIN] * 12, [12 * COIN - 4, 1, 1, 1, 1]), 0)
        self.assertEqual(short_room([COIN] * 11 + [1], [11 * COIN - 1, 2]), 1)


class UnservedJudged(Case):
    def test_there_is_one_without_fault_exactly_if_the_pool_does_not_serve(self):
        for pool, people in SMALL:
            if len(pool) > 3 and people > 3:
                continue
            wishes = wishes_by_bars(sum(pool), people)
            right = []
            for place, wish in product(range(len(pool)), wishes):
                word = unserved_fault(pool[::-1], people, Unserved(place, list(wish)))
                self.assertEqual(word, None if place in short_places(pool, wish) else "room")
                right += [wish] * (word is None)
            self.assertEqual(bool(right), serves(pool, people) is not None)

    def test_what_serves_returns_has_no_fault(self):
        for pool, people in SMALL:
            unserved = serves(pool, people)
            if unserved is not None:
                self.assertIsNone(unserved_fault(pool, people, unserved))

    def test_places(self):
        for place in (-1, 3, True, False, None, "0", 1.0, [0]):
            self.assertEqual(unserved_fault((1, 2, 2), 3, Unserved(place, None)), "place")
        self.assertEqual(unserved_fault((), 2, Unserved(0, (0, 0))), "place")

    def test_wishes(self):
        for wish in (None, (), "311", (3, 1), (5,), (3, 1, 1, 0), (3, 1, 0), (3, 1, True), (6, -1, 0), {}):
            self.assertEqual(unserved_fault((1, 2, 2), 3, Unserved(1, wish)), "wish")

    def test_room(self):
        self.assertIsNone(unserved_fault((1, 2, 2), 3, Unserved(1, [1, 3, 1])))
        self.assertEqual(unserved_fault((1, 2, 2), 3, Unserved(1, (4, 1, 0))), "room")
        self.assertEqual(unserved_fault((1, 2, 2), 3, Unserved(0, (3, 1, 1))), "room")
        self.assertEqual(unserved_fault((1, 2, 2), 3, Unserved(1, (2, 2, 1))), "room")
        self.assertEqual(unserved_fault((1, 2, 2), 3, Unserved(2, [1, 1, 3])), "room")


if __name__ == "__main__":
    unittest.main()
