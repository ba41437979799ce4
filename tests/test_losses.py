"""4.1 to 4.4: lost coins."""

import unittest
from itertools import product

from anyworths.errors import TooMany
from anyworths.losses import Fallen, check_lost, fallen_fault, felling_lots, loss_table, most_lost
from anyworths.losses import most_people_after, needed_coins, serves_after
from anyworths.serving import serves
from tests.roads import Case, at_once, bears_by_lots, lots_in_order, pools_up_to, rest_by_counts, serves_by_formula
from tests.roads import wishes_by_bars, worths_by_owners
from tests.test_searching import JUST_LAYERS, MANY_LAYERS

POOLS = pools_up_to(5, 4) + [(1, 1, 1, 1, 1, 1, 2), (1, 1, 1, 2, 2, 3), (1, 1, 1, 1, 3, 3, 4), (2,) * 6]
GREAT = tuple(10 ** 9 - at for at in range(12))
PEOPLE = range(1, 6)


def first_falling(pool, people, lost):
    """The place of the first coin above the room of its cover, as the words say it."""
    if people == 1:
        return None
    for place, coin in enumerate(pool):
        ahead = pool[:place]
        cover = sum(ahead[: len(ahead) - lost]) if len(ahead) > lost else 0
        if coin > cover // (people - 1) + 1:
            return place
    return None


class Bearing(Case):
    def test_none_exactly_if_whatever_is_lost_the_rest_serves(self):
        for pool in POOLS:
            for people in PEOPLE:
                for lost in range(8):
                    told = serves_after(pool, people, lost)
                    self.assertEqual(told is None, bears_by_lots(pool, people, lost), (pool, people, lost))

    def test_the_first_coin_above_the_room_of_its_cover_is_told(self):
        for pool in POOLS:
            for people in PEOPLE:
                for lost in range(8):
                    place = first_falling(pool, people, lost)
                    told = serves_after(pool, people, lost)
                    if place is None:
                        self.assertIsNone(told)
                        continue
                    lot = pool[max(0, place - lost):place]
                    wish = serves(rest_by_counts(pool, lot), people).wish
                    self.same(told, Fallen(lot, pool[place], wish))
                    self.assertIsNone(fallen_fault(pool, people, lost, told))

    def test_without_a_loss_it_is_serving(self):
        for pool in POOLS:
            for people in PEOPLE:
                self.assertEqual(serves_after(pool, people, 0) is None, serves(pool, people) is None)

    def test_the_example(self):
        self.same(serves_after((3, 2, 1, 1), 2, 2), Fallen((1, 1), 2, (4, 1)))
        self.assertIsNone(serves_after((1, 1, 2, 3), 2, 1))
        self.same(loss_table([1, 1, 2, 3]), (3, 2, 1, 1, 1))

    def test_all_losses_are_borne_by_one_person_by_ones_and_by_no_coins(self):
        for lost in (0, 1, 12):
            for people in PEOPLE:
                self.assertIsNone(serves_after((), people, lost))
                self.assertIsNone(serves_after((1,) * 12, people, lost))
            self.assertIsNone(serves_after(GREAT, 1, lost))

    def test_losses_beyond_the_number_of_coins(self):
        self.same(serves_after((1, 1, 2), 2, 12), Fallen((1, 1), 2, (1, 1)))
        self.same(serves_after((2,), 5, 12), Fallen((), 2, (1, 1, 0, 0, 0)))

    def test_check_lost(self):
        for lost in range(13):
            self.assertEqual(check_lost(lost), lost)


class Judged(Case):
    def wanted(self, pool, people, lost, lot, coin, wish):
        """The first word that applies, by the words of the document."""
        rest = rest_by_counts(pool, lot)
        if rest is None:
            return "lot"
        if len(lot) > lost:
            return "many"
        room = None if people == 1 else sum(other for other in rest if other < coin) // (people - 1) + 1
        if coin not in rest or room is None or coin <= room:
            return "coin"
        if len(wish) != people or sum(wish) != sum(rest):
            return "wish"
        return "split" if tuple(wish) in worths_by_owners(rest, people) else None

    def test_all_things_of_small_pools(self):
        for pool in [(), (2,), (1, 2), (2, 2), (1, 1, 2), (1, 2, 3)]:
            for people, lost in product((1, 2, 3), (0, 1)):
                some = False
                lots = lots_in_order(pool) + [(4,), (1,) * 4]
                wishes = [wish for total in range(7) for many in (2, 3) for wish in wishes_by_bars(total, many)]
                for lot, coin, wish in product(lots, range(5), wishes):
                    word = fallen_fault(pool, people, lost, Fallen(lot, coin, wish))
                    self.assertEqual(word, self.wanted(pool, people, lost, lot, coin, wish))
                    some = some or word is None
                # A Fallen without a fault exists exactly if the pool does not bear the loss.
                self.assertEqual(some, not bears_by_lots(pool, people, lost))

    def test_each_word(self):
        pool = (1, 1, 2, 3)
        self.assertIsNone(fallen_fault(pool, 2, 2, Fallen((1, 1), 2, (4, 1))))
        self.assertIsNone(fallen_fault(pool[::-1], 2, 2, Fallen([1, 1], 2, [1, 4])))
        self.assertIsNone(fallen_fault(pool, 2, 2, Fallen([2, 1], 3, [2, 2])))
        for lot in (None, 1, "1", [True], (0,), (4,), (1, 1, 1), (1,) * 13, {1}):
            self.assertEqual(fallen_fault(pool, 2, 12, Fallen(lot, 2, (4, 1))), "lot")
        self.assertEqual(fallen_fault(pool, 2, 1, Fallen((1, 1), 2, (4, 1))), "many")
        self.assertEqual(fallen_fault(pool, 2, 0, Fallen((1,), None, None)), "many")
        for coin in (None, True, "2", 0, 1, 4, (2,)):
            self.assertEqual(fallen_fault(pool, 2, 2, Fallen((1, 1), coin, (4, 1))), "coin")
        # The coin 1 stands in the rest and is never above its room; True is no coin.
        self.assertEqual(fallen_fault((1, 3), 2, 0, Fallen((), True, (2, 2))), "coin")
        self.assertEqual(fallen_fault(pool, 1, 2, Fallen((1, 1), 2, (5,))), "coin")
        self.assertEqual(fallen_fault(pool, 2, 2, Fallen((1, 1), 3, (4, 1))), "coin")
        for wish in (None, (4, 1, 0), (5,), (4, 2), (True, 4), (-1, 6), 5, {4: 1}):
            self.assertEqual(fallen_fault(pool, 2, 2, Fallen((1, 1), 2, wish)), "wish")
        self.assertEqual(fallen_fault(pool, 2, 2, Fallen((1, 1), 2, (3, 2))), "split")

    def test_too_many_layers(self):
        for pool, wish in MANY_LAYERS:
            self.fails(TooMany, (400,), fallen_fault, pool, len(wish), 0, Fallen((), pool[0], wish))
            self.assertEqual(fallen_fault(pool, len(wish), 0, Fallen((), 1, wish)), "coin")
        for pool, wish in JUST_LAYERS:
            fallen_fault(pool, len(wish), 0, Fallen((), pool[0], wish))


class Felling(Case):
    def test_they_are_all_lots_whose_rest_does_not_serve(self):
        for pool in POOLS:
            for people in PEOPLE:
                for lost in range(len(pool) + 2):
                    wanted = [
                        lot for lot in lots_in_order(pool)
                        if len(lot) <= lost and not serves_by_formula(rest_by_counts(pool, lot), people)
                    ]
                    self.assertEqual(list(felling_lots(pool, people, lost)), wanted)

    def test_the_empty_lot_is_one_exactly_if_the_pool_does_not_serve(self):
        self.assertEqual(list(felling_lots([2, 1], 3, 0)), [()])
        self.assertEqual(list(felling_lots([2, 1, 1], 3, 0)), [])
        self.assertEqual(list(felling_lots([2, 1, 1], 3, 12)), [(1,), (1, 1)])

    def test_needed_coins(self):
        for pool in POOLS:
            for people in PEOPLE:
                wanted = [
                    coin for coin in sorted(set(pool))
                    if not serves_by_formula(rest_by_counts(pool, (coin,)), people)
                ]
                self.same(needed_coins(pool, people), tuple(wanted))
                if serves_by_formula(pool, people):
                    self.assertEqual(wanted == [], bears_by_lots(pool, people, 1))


class Most(Case):
    def test_most_lost(self):
        for pool in POOLS:
            for people in PEOPLE:
                borne = [lost for lost in range(9) if bears_by_lots(pool, people, lost)]
                wanted = None if len(borne) == 9 else max(borne, default=-1)
                self.assertEqual(most_lost(pool, people), wanted, (pool, people))

    def test_it_bears_every_loss_just_for_one_person_ones_and_no_coins(self):
        for pool in POOLS:
            for people in PEOPLE:
                every = people == 1 or set(pool) <= {1}
                self.assertEqual(most_lost(pool, people) is None, every)
        self.assertEqual(most_lost((1,) * 11 + (2,), 2), 10)
        self.assertEqual(most_lost((2,), 2), -1)
        self.assertEqual(most_lost(GREAT, 2), -1)

    def test_most_people_after(self):
        for pool in POOLS:
            for lost in range(len(pool) + 2):
                borne = [people for people in range(1, 40) if bears_by_lots(pool, people, lost)]
                wanted = None if len(borne) == 39 else max(borne)
                self.assertEqual(most_people_after(pool, lost), wanted, (pool, lost))
        self.assertIsNone(most_people_after([], 0))
        self.assertIsNone(most_people_after([1] * 12, 12))
        self.assertEqual(most_people_after([10 ** 9] * 12, 0), 1)
        self.assertEqual(most_people_after([1] * 11 + [2], 0), 12)
        self.assertEqual(most_people_after([1] * 11 + [2], 12), 1)

    def test_loss_table(self):
        for pool in POOLS:
            self.same(loss_table(pool), tuple(most_people_after(pool, lost) for lost in range(len(pool) + 1)))
        self.same(loss_table(()), (None,))
        self.same(loss_table([1] * 12), (None,) * 13)

    def test_great_coins_are_answered_at_once(self):
        with at_once():
            self.assertEqual(serves_after(GREAT, 5, 12).coin, 10 ** 9 - 11)
            self.assertEqual(len(list(felling_lots(GREAT, 5, 12))), 2 ** 12 - 1)
            self.assertEqual(needed_coins(GREAT, 2), GREAT[::-1])
            self.same(loss_table(GREAT), (1,) * 13)


if __name__ == "__main__":
    unittest.main()
