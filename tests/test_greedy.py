"""2.4 and 2.5: coins that are handed out from the greatest on."""

import random
import unittest

from anyworths.errors import BadChoice, BadWish
from anyworths.greedy import Stuck, giving_steps, greatest_first, hand_out
from tests.roads import Case, at_once, pools_up_to, serves_by_formula, wishes_by_bars

COIN = 10 ** 9
SMALL = [(pool, people) for pool in pools_up_to(4, 4) for people in range(1, 4)]
SMALL += [(pool, people) for pool in pools_up_to(3, 3) for people in (4, 5)]
CASES = [(pool, wish) for pool, people in SMALL for wish in wishes_by_bars(sum(pool), people)]


def steps_by_rule(pool, wish):
    """The steps of the rule, and the coin that sticks with the lacks, or None."""
    steps = []
    lacks = list(wish)
    for coin in sorted(pool, reverse=True):
        person = min(range(len(lacks)), key=lambda one: (-lacks[one], one))
        if lacks[person] < coin:
            return steps, (coin, tuple(lacks))
        steps.append((coin, person, tuple(lacks)))
        lacks[person] -= coin
    return steps, None


def purses_of(steps, people):
    return tuple(tuple(sorted(coin for coin, taker, _ in steps if taker == person)) for person in range(people))


class GreatestFirst(Case):
    def test_each_coin_comes_to_the_first_of_those_who_lack_most(self):
        for pool, wish in CASES:
            steps, stuck = steps_by_rule(pool, wish)
            self.assertEqual(list(giving_steps(list(pool)[::-1], list(wish))), steps)
            result = greatest_first(pool[::-1], list(wish))
            if stuck is None:
                self.same(result, purses_of(steps, len(wish)))
            else:
                self.same(result, Stuck(*stuck))

    def test_a_split_that_is_made_meets_the_wish(self):
        for pool, wish in CASES:
            result = greatest_first(pool, wish)
            if isinstance(result, tuple):
                self.assertEqual(tuple(sum(purse) for purse in result), wish)
                self.assertEqual(tuple(sorted(coin for purse in result for coin in purse)), pool)

    def test_it_never_sticks_in_a_serving_pool(self):
        for pool, wish in CASES:
            if serves_by_formula(pool, len(wish)):
                self.assertIsInstance(greatest_first(pool, wish), tuple)

    def test_told_results(self):
        self.same(greatest_first([1, 2, 1], (2, 2)), ((2,), (1, 1)))
        self.same(greatest_first((1, 2, 2), (3, 1, 1)), Stuck(2, (1, 1, 1)))
        self.assertEqual(list(giving_steps((1, 2, 2), (3, 1, 1))), [(2, 0, (3, 1, 1))])
        self.same(greatest_first((), (0, 0)), ((), ()))
        self.assertEqual(list(giving_steps((), (0,))), [])

    def test_great_coins(self):
        with at_once():
            wish = (3 * COIN, 3 * COIN, 2 * COIN, 2 * COIN, 2 * COIN)
            self.assertEqual(sum(len(purse) for purse in greatest_first([COIN] * 12, wish)), 12)
            self.same(greatest_first([COIN] * 12, (12 * COIN - 1, 1)), Stuck(COIN, (COIN - 1, 1)))
            self.assertEqual(len(list(giving_steps([COIN] * 12, (12 * COIN,)))), 12)


class HandOut(Case):
    def test_any_hand_goes_in_a_serving_pool(self):
        for pool, wish in CASES:
            if serves_by_formula(pool, len(wish)) and len(wish) < 5:
                for result in self.all_hands(pool, wish):
                    self.assertEqual(tuple(sum(purse) for purse in result), wish)

    def test_any_hand_goes_in_greater_serving_pools(self):
        chance = random.Random(1)
        for people in range(2, 6):
            pool = []
            while len(pool) < 12:
                pool.append(min(COIN, chance.randint(1, sum(pool) // (people - 1) + 1)))
            for _ in range(50):
                cuts = sorted(chance.randint(0, sum(pool)) for _ in range(people - 1))
                wish = [high - low for low, high in zip([0] + cuts, cuts + [sum(pool)])]

                def choose(coin, lacks):
                    return chance.choice([person for person in range(people) if lacks[person] >= coin])

                result = hand_out(pool, wish, choose)
                self.assertEqual([sum(purse) for purse in result], wish)

    def all_hands(self, pool, wish):
        """The results for all ways to choose somebody who can take the coin."""
        results = []
        scripts = [()]
        while scripts:
            script = scripts.pop()
            asked = []

            def choose(coin, lacks):
                able = [person for person in range(len(lacks)) if lacks[person] >= coin]
                at = len(asked)
                asked.append(len(able))
                return able[script[at] if at < len(script) else 0]

            results.append(hand_out(pool, wish, choose))
            for at in range(len(script), len(asked)):
                scripts += [script + (0,) * (at - len(script)) + (other,) for other in range(1, asked[at])]
        return results

    def test_it_asks_once_for_each_coin_that_somebody_can_take(self):
        for pool, wish in CASES[::7]:
            asked = []

            def choose(coin, lacks):
                asked.append((coin, lacks))
                return lacks.index(max(lacks))

            result = hand_out(list(pool)[::-1], list(wish), choose)
            steps, stuck = steps_by_rule(pool, wish)
            self.assertEqual(asked, [(coin, lacks) for coin, _, lacks in steps])
            for _, lacks in asked:
                self.assertIs(lacks.__class__, tuple)
            self.same(result, purses_of(steps, len(wish)) if stuck is None else Stuck(*stuck))

    def test_it_sticks_where_nobody_can_take_a_coin(self):
        self.same(hand_out((1, 1, 2, 2), (3, 3), lambda coin, lacks: 0 if lacks[0] >= coin else 1), ((1, 2), (1, 2)))
        self.same(hand_out((2, 2, 2), (3, 3), lambda coin, lacks: lacks.index(max(lacks))), Stuck(2, (1, 1)))
        calls = []
        self.same(hand_out((5,), (4, 1), lambda coin, lacks: calls.append(coin)), Stuck(5, (4, 1)))
        self.assertEqual(calls, [])

    def test_choices_that_are_nobody_who_can_take_the_coin(self):
        for thing in (None, True, False, -1, 2, 10 ** 20, "0", 0.0, 1.0, [0], (1,)):
            self.fails(BadChoice, (0,), hand_out, (1, 1), (1, 1), lambda coin, lacks: thing)

    def test_the_place_of_a_wrong_choice_counts_the_coins_handed_out(self):
        for place in range(4):
            calls = []

            def choose(coin, lacks):
                calls.append(coin)
                return None if len(calls) == place + 1 else lacks.index(max(lacks))

            self.fails(BadChoice, (place,), hand_out, (1, 1, 2, 3), (4, 3), choose)
            self.assertEqual(calls, [3, 2, 1, 1][: place + 1])

    def test_a_person_who_lacks_less_than_the_coin_cannot_take_it(self):
        self.fails(BadChoice, (0,), hand_out, (1, 2), (2, 1), lambda coin, lacks: 1)
        self.fails(BadChoice, (1,), hand_out, (1, 2), (2, 1), lambda coin, lacks: 0)
        self.same(hand_out((1, 2), (2, 1), lambda coin, lacks: 0 if coin == 2 else 1), ((2,), (1,)))

    def test_what_the_function_raises_is_raised(self):
        class Own(Exception):
            pass

        def choose(coin, lacks):
            raise Own("word")

        with self.assertRaises(Own):
            hand_out((1,), (1,), choose)
        for error in (ValueError, IndexError, BadWish):
            def wrong(coin, lacks):
                raise error(0, "number")

            with self.assertRaises(error) as caught:
                hand_out((1,), (1,), wrong)
            self.assertIs(caught.exception.__class__, error)

    def test_no_coins_and_one_person(self):
        self.same(hand_out((), (0, 0, 0), None), ((), (), ()))
        self.same(hand_out((2, 1), (3,), lambda coin, lacks: 0), ((1, 2),))


if __name__ == "__main__":
    unittest.main()
