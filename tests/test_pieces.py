"""7.1, 7.4 and 7.5: pieces, and exchanges that lead from one split to another."""

import unittest
from itertools import combinations

from anyworths.errors import BadPeople, BadPool, BadSplit, BadWish, TooMany
from anyworths.exchanges import after_exchanges, is_least
from anyworths.holding import count_splits_for
from anyworths.pieces import Apart, all_pieces, joined_by, piece_fault, piece_of, pieces_with
from anyworths.serving import serves
from tests.roads import Case, at_once, handed, least_exchanges, listed, lots_in_order, piece_by_search, pool_by_purses
from tests.roads import pools_up_to, rest_by_counts, small_splits, split_key, splits_in_order, steps_by_least
from tests.roads import wishes_by_bars, worths_by_purses
from tests.test_bands import JUST, MANY
from tests.test_holding import MANY_LAYERS, MANY_SPLITS

COIN = 10 ** 9
SPLIT = ((2,), (), (1, 1))
THERE = ((1, 1), (), (2,))
POOLS = [(pool, people) for pool in pools_up_to(3, 3) for people in (1, 2, 3, 4)] + [
    ((1, 2, 2, 3), 3), ((1, 1, 2, 2), 3), ((2, 2, 3, 3), 3), ((1, 2, 3, 4), 2), ((1, 2), 5), ((2, 2, 4), 5),
    ((1, 1, 2, 3, 4), 2), ((2, 3, 4, 5, 6), 3), ((2, 3, 3, 4, 4, 5), 3),
]
# No exchange joins all splits of these pools and worths.
APART = [((2, 3, 3, 4, 4, 5), (6, 7, 8)), ((1, 3, 3, 5, 5, 7), (6, 8, 10)), ((3, 4, 4, 5, 5, 6), (8, 9, 10))]
# The pieces of these have just 400 splits, and 401.
JUST_PIECES = [
    ((1, 3, 3, 7, 9), (5, 6, 10), (2, 4, 5, 8)), ((1, 1, 4, 5), (2, 3, 7), (3, 4), (2, 5, 6)),
    ((), (1, 3, 3, 5), (2, 4, 5), (1, 2, 4), (6, 7)),
]
MANY_PIECES = [
    ((6, 7, 8), (1, 2, 5, 11), (2, 3, 4, 4, 10)), ((1, 1, 2, 5), (1, 2, 3, 3, 6), (7,), (4, 8)),
    ((1, 3, 4, 4), (6,), (1, 2, 8), (2, 5), (3, 7)),
]


def pieces_by_search(splits):
    """The pieces of all these splits, in the order of their first splits."""
    return tuple(sorted({piece_by_search(split) for split in splits}, key=lambda piece: split_key(piece[0])))


class Pieces(Case):
    def test_all_splits_that_exchanges_join(self):
        for split in small_splits():
            self.same(piece_of(split), piece_by_search(split))
            self.same(piece_of(listed(split)), piece_by_search(split))
        self.same(piece_of([[2], [], [1, 1]]), (SPLIT, THERE))
        self.same(piece_of(((1, 2, 2),)), (((1, 2, 2),),))
        self.same(piece_of(((), (), ())), (((), (), ()),))

    def test_of_a_wish(self):
        for pool, people in POOLS:
            for wish in wishes_by_bars(sum(pool), people):
                splits = [split for split in splits_in_order(pool, people) if worths_by_purses(split) == wish]
                self.same(pieces_with(pool, wish), pieces_by_search(splits))
        self.same(pieces_with([1, 2, 1], [2, 0, 2]), ((SPLIT, THERE),))
        self.same(pieces_with((2, 2), (3, 1)), ())
        self.same(pieces_with((), (0, 0)), ((((), ()),),))

    def test_all(self):
        for pool, people in POOLS:
            self.same(all_pieces(pool, people), pieces_by_search(splits_in_order(pool, people)))
            self.same(all_pieces(list(pool)[::-1], people), all_pieces(pool, people))

    def test_same_worths_are_one_piece_if_the_pool_serves_or_for_two_people(self):
        apart = 0
        for pool, people in POOLS:
            pieces = all_pieces(pool, people)
            worths = [worths_by_purses(piece[0]) for piece in pieces]
            if people == 2 or serves(pool, people) is None:
                self.assertEqual(len(worths), len(set(worths)))
            apart += len(worths) > len(set(worths))
        self.assertGreater(apart, 0)

    def test_the_errors_in_their_order(self):
        self.fails(BadSplit, (0, "many"), piece_of, ())
        self.fails(BadPool, (0, "coin"), pieces_with, [0], None)
        self.fails(BadWish, (1, "number"), pieces_with, [1], (1, True))
        self.fails(BadWish, (2, "sum"), pieces_with, [1], (1, 1))
        self.fails(BadPool, (0, "many"), all_pieces, None, 0)
        self.fails(BadPeople, (), all_pieces, (1,) * 12, 6)

    def test_more_than_four_hundred_splits(self):
        for pool, people in JUST:
            self.assertEqual(sum(len(piece) for piece in all_pieces(pool, people)), 400)
        for pool, people in MANY:
            self.fails(TooMany, (400,), all_pieces, pool, people)

    def test_pieces_of_just_four_hundred_splits_and_more(self):
        for split in JUST_PIECES:
            piece = piece_of(split)
            self.assertEqual(len(set(piece)), 400)
            self.assertEqual(list(piece), sorted(piece, key=split_key))
            self.assertIsNone(piece_fault(split, piece))
            self.assertEqual(pieces_with(pool_by_purses(split), worths_by_purses(split)), (piece,))
            self.same(joined_by(split, ((1,),)), Apart(piece))
            self.assertEqual(after_exchanges(split, joined_by(split, piece[-1])), piece[-1])
        for split in MANY_PIECES:
            pool, worths = pool_by_purses(split), worths_by_purses(split)
            self.assertEqual(count_splits_for(pool, worths), 401)
            self.fails(TooMany, (400,), piece_of, split)
            for there in (split, ((1,),), split[::-1]):
                self.fails(TooMany, (400,), joined_by, split, there)
            self.fails(BadSplit, (0, "many"), joined_by, split, None)
            self.fails(TooMany, (400,), pieces_with, pool, worths)
            self.assertEqual(piece_fault(split, [split]), "left")

    def test_too_many_as_of_splits_for(self):
        self.fails(TooMany, (400,), pieces_with, *MANY_SPLITS)
        self.fails(TooMany, (400,), pieces_with, *MANY_LAYERS)


class Joined(Case):
    def test_as_few_least_exchanges_as_can_be(self):
        longest = 0
        for split in small_splits() + [((1, 1, 2, 2), (1, 3)), ((1, 2, 3), (1, 2), (3,)), ((1, 1, 1, 1), (2, 2), (4,)),
                                       ((1, 5), (2, 4), (3, 3)), ((1, 2, 3), (2, 4), (1, 5))]:
            for there in splits_in_order(pool_by_purses(split), len(split)):
                steps = steps_by_least(split)
                told = joined_by(listed(split), there)
                if there not in steps:
                    self.same(told, Apart(piece_by_search(split)))
                    continue
                self.assertEqual(len(told), steps[there])
                now = split
                for exchange in told:
                    self.assertIn(exchange, least_exchanges(now))
                    now = handed(now, *exchange)
                self.assertEqual(now, there)
                self.same(told, tuple(told))
                longest = max(longest, len(told))
        self.assertGreater(longest, 1)

    def test_some_exchanges_are_not_least(self):
        # One exchange of all coins leads there, but it is not least.
        split, there = ((1, 1, 4), (2, 2, 2)), ((2, 2, 2), (1, 1, 4))
        self.assertFalse(is_least(split, (0, 1) + split))
        told = joined_by(split, there)
        self.assertEqual(len(told), 2)
        self.assertEqual(after_exchanges(split, told), there)

    def test_itself_and_what_is_apart(self):
        self.same(joined_by(SPLIT, [[2], [], [1, 1]]), ())
        self.same(joined_by(SPLIT, THERE), ((0, 2, (2,), (1, 1)),))
        apart = Apart((SPLIT, THERE))
        for there in (((2,), (1, 1), ()), ((2,), (), (1, 1), ()), ((2, 1, 1), ()), ((2,), (), (2,)), ((),),
                      ((1,), (1,), (2,)), ((4,), (), ()), ((1, 1), (), (1, 1))):
            self.same(joined_by(SPLIT, there), apart)
        # The same pool and worths, but no exchange can be made.
        one, other = ((2, 4), (3, 4), (3, 5)), ((3, 3), (2, 5), (4, 4))
        self.same(joined_by(one, other), Apart((one,)))
        self.same(joined_by(other, one), Apart((other,)))

    def test_the_errors_in_their_order(self):
        self.fails(BadSplit, (0, "many"), joined_by, (), None)
        self.fails(BadSplit, (1, "purse"), joined_by, SPLIT, ((), None))


class Judged(Case):
    def test_unions_of_pieces_and_nothing_else(self):
        words = set()
        for pool, people, wish in (((1, 1, 2), 3, (2, 0, 2)), ((1, 5, 2, 4, 3, 3), 3, (6, 6, 6)),
                                   ((1, 1, 2, 2, 4), 2, (4, 6)), ((1, 1, 2), 3, (2, 1, 1))):
            splits = [split for split in splits_in_order(tuple(sorted(pool)), people)
                      if worths_by_purses(split) == wish]
            splits = splits[:4] + splits[-4:] if len(splits) > 8 else splits
            for many in range(len(splits) + 1):
                for rows in combinations(splits, many):
                    for split in splits:
                        word = piece_fault(split, list(rows))
                        closed = {there for one in rows for there in piece_by_search(one)} == set(rows)
                        wanted = "start" if split not in rows else None if closed else "left"
                        self.assertEqual(word, wanted)
                        words.add(word)
        self.assertEqual(words, {None, "start", "left"})

    def test_several_pieces_together(self):
        for pool, wish in APART:
            pieces = pieces_with(pool, wish)
            self.assertEqual(len(pieces), 2)
            for piece in pieces:
                for split in piece:
                    self.assertIsNone(piece_fault(split, piece))
                    self.assertIsNone(piece_fault(split, sorted(pieces[0] + pieces[1], key=split_key)))
                    self.assertEqual(piece_fault(split, pieces[1] if piece == pieces[0] else pieces[0]), "start")

    def test_each_word(self):
        right = (SPLIT, THERE)
        self.assertIsNone(piece_fault(SPLIT, right))
        self.assertIsNone(piece_fault(listed(SPLIT), [listed(SPLIT), [[1, 1], [], [2]]]))
        for thing in (None, True, 0, "", "ab", {}, {SPLIT: 1}, {SPLIT, THERE}, range(1), right + (None,), (None,),
                      right + (((2,), (), (2,)),), right + (((2,), (1, 1)),), (((2,), (), (1, 1), ()),), ((0,), ()),
                      right + (((2,), (1,), (1,)),), right + (((2,), (), (True, 1)),), (((4,), (), ()),), (SPLIT, 1),
                      (((2,), (1, 1), ()), None), ((),)):
            self.assertEqual(piece_fault(SPLIT, thing), "form", thing)
        for thing in (right[::-1], right + right, (SPLIT, SPLIT), (SPLIT, ((2,), (), [1, 1])), (THERE, THERE),
                      [THERE, SPLIT]):
            self.assertEqual(piece_fault(SPLIT, thing), "order", thing)
        for thing in ((), [], (THERE,)):
            self.assertEqual(piece_fault(SPLIT, thing), "start", thing)
        self.assertEqual(piece_fault(SPLIT, (SPLIT,)), "left")
        self.fails(BadSplit, (0, "many"), piece_fault, None, None)
        self.fails(BadSplit, (2, "purse"), piece_fault, ((), (), None), right)

    def test_no_piece_is_too_great_to_judge(self):
        for split in MANY_PIECES:
            pool, worths = pool_by_purses(split), worths_by_purses(split)
            rest = [pool]
            for person in range(len(split) - 1):
                rest = [
                    told[:person] + (lot, rest_by_counts(told[person], lot)) for told in rest
                    for lot in lots_in_order(told[person]) if sum(lot) == worths[person]
                ] if person else [
                    (lot, rest_by_counts(pool, lot)) for lot in lots_in_order(pool) if sum(lot) == worths[0]
                ]
            self.assertEqual(len(rest), 401)
            self.assertIsNone(piece_fault(split, rest))
            less = [there for there in rest if there != rest[7]]
            self.assertEqual(piece_fault(rest[8], less), "left")


class Great(Case):
    def test_twelve_coins_are_answered_at_once(self):
        with at_once():
            self.same(piece_of(((COIN,) * 6, (COIN,) * 6)), (((COIN,) * 6, (COIN,) * 6),))
            coins = tuple(COIN - 3 ** at for at in range(12))[::-1]
            five = (coins[:2], coins[2:4], coins[4:6], coins[6:9], coins[9:])
            for split in ((coins, ()), (coins[:6], coins[6:]), five):
                self.same(piece_of(split), (split,))
                self.same(joined_by(split, split[::-1]), Apart((split,)))
            many = (tuple(range(1, 7)), (7, 8), (9, 12), (10, 11))
            self.fails(TooMany, (400,), piece_of, many)
            for split in JUST_PIECES:
                for there in piece_of(split)[::40]:
                    self.assertEqual(after_exchanges(split, joined_by(split, there)), there)


if __name__ == "__main__":
    unittest.main()
