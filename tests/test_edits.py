"""10.1 and 10.2: edits of a pool."""

import random
import unittest
from collections import Counter

from anyworths.edits import check_edits, does_fit, pool_after
from anyworths.errors import BadEdit, BadPool
from anyworths.serving import serves
from tests.roads import Case, at_once, listed, pools_up_to, rows_of_coins, serves_by_formula

COIN = 10 ** 9
POOLS = pools_up_to(3, 4) + [(1, 1, 2, 3), (1, 2, 2, 5), (1,) * 11, (1,) * 12, (2,) * 12, (1,) * 11 + (4,)]
EDITS = [("put", coin) for coin in range(1, 6)] + [("take", coin) for coin in range(1, 6)] + [
    ("break", coin, parts) for coin in range(2, 6) for many in (2, 3) for parts in rows_of_coins(many, coin)
] + [("join", coin, other) for coin in range(1, 5) for other in range(coin, 5)]
NO_COINS = (None, True, False, 0, -1, COIN + 1, "1", 1.0, (1,), [1])


def edited_by_counts(pool, edit):
    """The pool behind an edit, by counts, or None if it does not fit."""
    left = Counter(pool)
    word, coins = edit[0], edit[1:]
    out, into = {
        "put": ((), coins), "take": (coins, ()), "break": (coins[:1], coins[-1]),
        "join": (coins, (coins[0] + coins[-1],) if word == "join" else ()),
    }[word]
    left.subtract(out)
    if any(many < 0 for many in left.values()):
        return None
    left.update(into)
    after = tuple(sorted(left.elements()))
    return after if len(after) <= 12 and all(coin <= COIN for coin in after) else None


class Checked(Case):
    def test_edits_as_tuples(self):
        for edit in EDITS:
            self.same(check_edits([edit]), (edit,))
            self.same(check_edits((listed(edit),)), (edit,))
        self.same(check_edits([["join", 3, 2], ["break", 4, [3, 1]], ("put", COIN)]), (
            ("join", 2, 3), ("break", 4, (1, 3)), ("put", COIN)))
        self.same(check_edits([]), ())
        self.same(check_edits((("put", 1),) * 20), (("put", 1),) * 20)
        self.same(check_edits([("join", COIN, COIN), ("break", COIN, (COIN - 1, 1)), ("break", 12, (1,) * 12)]), (
            ("join", COIN, COIN), ("break", COIN, (1, COIN - 1)), ("break", 12, (1,) * 12)))

    def test_each_word(self):
        for edits in (None, 0, "", "put", {}, (("put", 1),) * 21, [None] * 21, range(2), {("put", 1)}):
            self.fails(BadEdit, (0, "many"), check_edits, edits)
        words = [(thing, "edit") for thing in (
            None, 0, True, "put", (), [], ("put",), ("put", 1, 2), ("take", 1, 1), ("break", 2), ("join", 1),
            ("break", 2, (1, 1), 1), ("join", 1, 2, 3), ("Put", 1), ("", 1), (None, 1), (1, "put"), (True, 1),
            (("put",), 1), (["put"], 1), ({}, 1), (b"put", 1), {0: "put", 1: 1}, {"put": 1}, ("put ", 1), "xx", [[], 1],
            (object(), 1), ("put", None, None),
        )]
        for coin in NO_COINS:
            words += [(thing, "coin") for thing in (
                ("put", coin), ["take", coin], ("break", coin, None), ("join", coin, 1), ["join", 1, coin],
                ("join", coin, coin))]
        words += [(("break", 3, parts), "parts") for parts in (
            None, 3, "12", (), (3,), (1, 1), (1, 3), (0, 3), (True, 2), (1, 2, 0), {1, 2}, (1, None), (4, -1),
            (1.0, 2))]
        words += [(("break", 13, (1,) * 13), "parts"), (("break", 1, (1,)), "parts"), (("break", 2, (2,)), "parts")]
        for thing, word in words:
            self.fails(BadEdit, (0, word), check_edits, [thing, None])
            self.fails(BadEdit, (2, word), check_edits, (("put", 1), ["take", 2], thing, None))
            self.fails(BadEdit, (0, word), does_fit, (1, 1), thing)

    def test_the_errors_in_their_order(self):
        self.fails(BadPool, (0, "coin"), does_fit, [0], None)
        self.fails(BadPool, (0, "many"), pool_after, None, None)
        self.fails(BadEdit, (0, "many"), pool_after, (1,), None)
        self.fails(BadEdit, (1, "coin"), pool_after, (1,), [("put", 2), ("put", 0)])
        self.fails(BadEdit, (0, "edit"), does_fit, (1,), [("put", 1)])


class Fitting(Case):
    def test_by_counts(self):
        truths = {}
        for pool in POOLS:
            for edit in EDITS:
                after = edited_by_counts(pool, edit)
                self.assertIs(does_fit(list(pool)[::-1], listed(edit)), after is not None)
                self.same(pool_after(list(pool)[::-1], [listed(edit)]), pool if after is None else after)
                truths[edit[0], after is None] = True
        self.assertEqual(len(truths), 8)

    def test_bounds(self):
        self.assertIs(does_fit((1,) * 12, ("put", 1)), False)
        self.assertIs(does_fit((1,) * 11, ("put", COIN)), True)
        self.assertIs(does_fit((1,) * 10 + (4,), ("break", 4, (2, 2))), True)
        self.assertIs(does_fit((1,) * 10 + (4,), ("break", 4, (1, 1, 2))), False)
        self.assertIs(does_fit((4,), ("break", 4, (1, 1, 2))), True)
        self.assertIs(does_fit((12,), ("break", 12, (1,) * 12)), True)
        self.assertIs(does_fit((12, 12), ("break", 12, (1,) * 12)), False)
        self.assertIs(does_fit((2,), ("join", 2, 2)), False)
        self.assertIs(does_fit((2, 2), ("join", 2, 2)), True)
        self.assertIs(does_fit((COIN - 1, 1), ("join", 1, COIN - 1)), True)
        self.assertIs(does_fit((COIN, 1), ("join", 1, COIN)), False)
        self.assertIs(does_fit((COIN, 1, 1), ("join", 1, COIN)), False)
        self.assertIs(does_fit((COIN, 1, 1), ("join", 1, 1)), True)
        self.assertIs(does_fit((COIN,), ("take", COIN)), True)
        self.assertIs(does_fit((), ("take", 1)), False)

    def test_edits_one_after_another(self):
        chance = random.Random(41)
        for _ in range(300):
            pool = chance.choice(POOLS)
            edits = chance.choices(EDITS, k=chance.randint(0, 8))
            wanted = pool
            for edit in edits:
                after = edited_by_counts(wanted, edit)
                wanted = wanted if after is None else after
            self.same(pool_after(list(pool)[::-1], listed(edits)), wanted)
        self.same(pool_after([3, 1], [("take", 2), ("put", 2), ("take", 2), ("take", 2), ("join", 1, 3)]), (4,))
        self.same(pool_after((1,) * 12, [("put", 2), ("take", 1), ("put", 2)]), (1,) * 11 + (2,))
        self.same(pool_after((2, 1), []), (1, 2))

    def test_a_break_leaves_every_number_served(self):
        for pool in POOLS:
            for edit in EDITS:
                if edit[0] == "break" and does_fit(pool, edit):
                    for people in range(1, 6):
                        if serves(pool, people) is None:
                            self.assertTrue(serves_by_formula(pool_after(pool, [edit]), people))

    def test_edits_that_change_nothing_together(self):
        for pool in POOLS:
            for coin in range(1, 6):
                if does_fit(pool, ("put", coin)):
                    self.assertEqual(pool_after(pool, [("put", coin), ("take", coin)]), pool)
                for part in range(1, coin // 2 + 1):
                    parts = (part, coin - part)
                    if does_fit(pool, ("break", coin, parts)):
                        self.assertEqual(pool_after(pool, [("break", coin, parts), ("join",) + parts]), pool)

    def test_great_coins_are_answered_at_once(self):
        with at_once():
            pool = tuple(COIN - 3 ** at for at in range(12))
            edits = [("take", COIN - 3 ** at) for at in range(12)] + [("put", COIN - 1)] * 8
            self.same(pool_after(pool, edits), (COIN - 1,) * 8)


if __name__ == "__main__":
    unittest.main()
