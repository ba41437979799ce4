"""7.1, 7.7 and 7.8: how long debts can be paid with exchanges ahead."""

import random
import unittest

from anyworths.debtrows import Unpaid
from anyworths.errors import BadAmount, BadChoice, BadPeople, BadPool, BadSplit, TooMany
from anyworths.pieceranks import PieceRanks, break_with, ranks_with
from anyworths.pieces import all_pieces
from anyworths.serving import serves
from tests.roads import Case, at_once, debts_by_worths, has_list, listed, piece_by_search, pools_up_to
from tests.roads import splits_in_order
from tests.test_bands import JUST, MANY
from tests.test_withpaying import ways_by_search

COIN = 10 ** 9
POOLS = [(pool, people) for pool in pools_up_to(3, 3) for people in (1, 2, 3)] + [
    ((1, 1, 1, 2), 3), ((1, 1, 2, 2), 2), ((1, 2, 2, 3), 2), ((1, 1, 3, 4), 2), ((1, 1, 4, 4), 2), ((2, 2, 2, 3), 2),
    ((1, 1), 4), ((1, 2), 4), ((1, 1, 1), 4), ((1, 1, 2), 4), ((1, 1), 5), ((1, 3), 5), ((1, 1, 1, 1, 5), 2),
    ((1, 1, 1, 4), 3), ((1, 1, 1, 1, 4), 3), ((2, 3, 3, 4, 4, 5), 3),
]
MOSTS = (None, 1, 2, 5)


def ranks_by_counting(pool, people, most):
    """The ranks and the breaking debts of all pieces, by counting up."""
    pieces = all_pieces(pool, people)
    place_of = {split: place for place, piece in enumerate(pieces) for split in piece}
    asked = [
        [(debt, {place_of[way] for way in ways_by_search(piece[0], debt)}) for debt in debts_by_worths(piece[0], most)]
        for piece in pieces
    ]
    ranks = {}
    breaking = {}
    for rank in range(len(pieces) + 1):
        below = set(ranks)
        for place, row in enumerate(asked):
            good = [debt for debt, into in row if into <= below]
            if place not in below and good:
                ranks[place] = rank
                breaking[place] = good[0]
    places = range(len(pieces))
    return tuple(ranks.get(place) for place in places), tuple(breaking.get(place) for place in places)


class Ranks(Case):
    def test_they_are_found_by_counting_up(self):
        greatest = 0
        for pool, people in POOLS:
            pieces = all_pieces(pool, people)
            for most in MOSTS[:2] if len(pool) > 4 else MOSTS:
                ranks, debts = ranks_by_counting(pool, people, most)
                told = ranks_with(list(pool)[::-1], people, most=most)
                self.same(told, PieceRanks(pool, people, pieces, ranks, debts))
                self.same(told.ranks, ranks)
                self.same(told.debts, debts)
                self.same(told.pieces, pieces)
                greatest = max([greatest] + [rank for rank in ranks if rank is not None])
        self.assertGreater(greatest, 1)

    def test_the_rank_is_none_exactly_if_the_pool_serves(self):
        for pool, people in POOLS:
            for most in MOSTS:
                ranks = ranks_with(pool, people, most=most).ranks
                if people == 1 or serves(pool, people) is None:
                    self.assertEqual(set(ranks), {None})
                else:
                    self.assertNotIn(None, ranks)

    def test_the_example(self):
        told = ranks_with((1, 2, 2), 3)
        self.assertEqual(told.rank_at([[2], [2], [1]]), 0)
        self.same(told.breaking_at([[2], [2], [1]]), (0, 1, 1))
        self.same(ranks_with((1, 1, 2), 3).rank_at(((2,), (), (1, 1))), None)
        self.assertEqual(told.rank_at(((), (), (2, 1, 2))), 1)
        self.same(told.breaking_at(((), (), (2, 1, 2))), (2, 0, 1))

    def test_length_and_iteration_are_those_of_the_pieces(self):
        for pool, people in POOLS[::3]:
            told = ranks_with(pool, people)
            self.assertEqual(len(told), len(all_pieces(pool, people)))
            self.assertEqual(list(told), list(all_pieces(pool, people)))
            self.assertEqual(tuple(told), told.pieces)
            self.assertEqual([piece for piece in told] + [piece for piece in told], list(told.pieces) * 2)
        self.assertEqual(len(PieceRanks(None, None, (1, 2, 3), (), ())), 3)
        self.assertEqual(list(PieceRanks(None, None, [1, 2, 3], (), ())), [1, 2, 3])

    def test_ranks_and_breaking_debts_of_splits(self):
        for pool, people in POOLS[::4]:
            told = ranks_with(pool, people)
            for split in splits_in_order(pool, people):
                place = told.pieces.index(piece_by_search(split))
                self.assertEqual(told.rank_at(listed(split)), told.ranks[place])
                self.same(told.breaking_at(listed(split)), told.debts[place])

    def test_errors_of_the_methods(self):
        told = ranks_with((1, 2, 2), 3)
        before = dict(vars(told))
        for method in (told.rank_at, told.breaking_at, lambda split: break_with(told, split, None)):
            self.fails(BadSplit, (0, "many"), method, None)
            self.fails(BadSplit, (0, "many"), method, ((1, 2), (2,)))
            self.fails(BadSplit, (0, "many"), method, ((1,), (2,), (2,), ()))
            self.fails(BadSplit, (1, "purse"), method, ((1,), (0,), None))
            self.fails(BadSplit, (2, "coin"), method, ((1,), (2,), (2, 2)))
            self.fails(BadSplit, (3, "lacking"), method, ((1,), (2,), ()))
        self.assertEqual(vars(told), before)

    def test_the_errors_in_their_order(self):
        def ranks(pool, people, most=None):
            return ranks_with(pool, people, most=most)

        self.fails(BadPool, (0, "coin"), ranks, [0], 0, 0)
        for people in (0, 6, True, None, "2"):
            self.fails(BadPeople, (), ranks, [1], people, 0)
        for most in (0, True, "1", -1, 12 * COIN + 1):
            self.fails(BadAmount, (), ranks, (COIN,), 2, most)
        with self.assertRaises(TypeError):
            ranks_with((1,), 2, 1)
        for pool, people in MANY:
            self.fails(BadAmount, (), ranks, pool, people, 0)
            self.fails(TooMany, (400,), ranks, pool, people)
            self.fails(TooMany, (400,), ranks, pool, people, 1)
        # (people - 1) * total is 400, and above.
        for pool, people in (((400,), 2), ((200,), 3), ((100,), 5), ((1, 2, 397), 2)):
            told = ranks(pool, people)
            self.assertEqual(set(told.ranks), {0} if len(pool) == 1 else set(told.ranks) - {None})
            self.assertEqual(ranks(pool, people, 1).pieces, told.pieces)
        for pool, people in (((401,), 2), ((201,), 3), ((101,), 5), ((COIN,), 2), ((1, 2, 398), 2)):
            self.fails(TooMany, (400,), ranks, pool, people)
            self.fails(TooMany, (400,), ranks, pool, people, 1)
        self.same(ranks((COIN,) * 12, 1), PieceRanks((COIN,) * 12, 1, ((((COIN,) * 12,),),), (None,), (None,)))

    def test_just_four_hundred_splits(self):
        with at_once():
            for pool, people in JUST:
                told = ranks_with(pool, people)
                self.assertEqual(sum(len(piece) for piece in told), 400)
                self.assertEqual(None in told.ranks, serves(pool, people) is None)


class Broken(Case):
    def choosers(self):
        chance = random.Random(11)
        return [
            lambda split, debt, ways: ways[0], lambda split, debt, ways: ways[-1],
            lambda split, debt, ways: chance.choice(ways),
            lambda split, debt, ways: [list(purse)[::-1] for purse in ways[len(ways) // 2]],
        ]

    def test_at_most_one_debt_more_than_the_rank_is_asked(self):
        longest = 0
        for pool, people in POOLS:
            for most in (None, 1):
                told = ranks_with(pool, people, most=most)
                for split in splits_in_order(pool, people)[::7]:
                    for choose in self.choosers():
                        self.played(told, split, choose, most)
                        longest = max([longest] + [rank for rank in told.ranks if rank is not None])
        self.assertGreater(longest, 1)

    def played(self, told, split, choose, most):
        """One play, judged by the words of the document."""
        calls = []

        def watched(now, debt, ways):
            calls.append((now, debt, ways))
            return choose(now, debt, ways)

        end = break_with(told, listed(split), watched)
        rank = told.rank_at(split)
        if rank is None:
            self.assertIsNone(end)
            self.assertEqual(calls, [])
            return
        self.assertIsInstance(end, Unpaid)
        self.assertFalse(has_list(end))
        self.assertEqual(end.splits[0], split)
        self.assertLessEqual(len(end.splits), rank + 1)
        self.assertEqual(len(calls), len(end.splits) - 1)
        for (now, debt, ways), before, after in zip(calls, end.splits, end.splits[1:]):
            self.assertFalse(has_list((now, debt, ways)))
            self.assertEqual(now, before)
            self.assertEqual(debt, told.breaking_at(now))
            self.assertEqual(list(ways), ways_by_search(now, debt))
            self.assertIsInstance(ways, tuple)
            self.assertIn(after, ways)
            self.assertTrue(most is None or debt[2] <= most)
        self.assertEqual(end.debt, told.breaking_at(end.splits[-1]))
        self.assertEqual(ways_by_search(end.splits[-1], end.debt), [])

    def test_the_clever_choice_pays_as_many_debts_as_the_rank(self):
        for pool, people in POOLS:
            told = ranks_with(pool, people)
            if None in told.ranks:
                continue
            for split in splits_in_order(pool, people)[::5]:
                end = break_with(told, split, lambda now, debt, ways: max(ways, key=told.rank_at))
                self.assertEqual(len(end.splits), told.rank_at(split) + 1)

    def test_wrong_choices(self):
        told = ranks_with((1, 2, 2), 3)
        split = ((), (), (1, 2, 2))
        self.assertEqual(told.rank_at(split), 1)
        for wrong in (None, True, 0, (), "112", split, ((1,), (2,), (2,)), ((0,), (), ()), ((True,), (), (2, 2)),
                      ((), (1,), (2, 2)), ((1,), (), (2, 2), ()), {0: 1}):
            self.fails(BadChoice, (0,), break_with, told, split, lambda now, debt, ways: wrong)
        self.same(break_with(told, split, lambda now, debt, ways: [[1], (), [2, 2]]), Unpaid(
            (split, ((1,), (), (2, 2))), told.breaking_at(((1,), (), (2, 2)))))

    def test_a_wrong_choice_behind_paid_debts(self):
        asked = 0
        for pool, people in POOLS:
            told = ranks_with(pool, people)
            if max([rank or 0 for rank in told.ranks]) < 2:
                continue
            split = told.pieces[told.ranks.index(max(told.ranks))][0]

            def choose(now, debt, ways):
                return max(ways, key=told.rank_at) if now == split else ()

            self.fails(BadChoice, (1,), break_with, told, split, choose)
            asked += 1
        self.assertGreater(asked, 0)

    def test_what_a_chooser_raises_is_raised(self):
        told = ranks_with((1, 2, 2), 3)

        def choose(now, debt, ways):
            raise KeyError("own")

        with self.assertRaises(KeyError):
            break_with(told, ((), (), (1, 2, 2)), choose)
        # Nothing is chosen where the rank is None, or where the first debt has no way.
        self.assertIsNone(break_with(ranks_with((1, 1), 3), ((1,), (), (1,)), choose))
        self.same(break_with(told, ((2,), (2,), (1,)), choose), Unpaid((((2,), (2,), (1,)),), (0, 1, 1)))


if __name__ == "__main__":
    unittest.main()
