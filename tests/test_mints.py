"""3.13 to 3.19: pools of the few kinds of coins that a mint has."""

import unittest
from itertools import combinations_with_replacement

from anyworths.errors import BadCount, BadKinds, BadPeople, BadTotal
from anyworths.leastpools import room_of
from anyworths.mints import Minted, NoMint, all_minted, check_kinds, fewest_from, greatest_from, kinds_let
from anyworths.mints import mint_fault
from tests.roads import Case, at_once, listed, serves_by_formula

COIN = 10 ** 9
PEOPLE = range(2, 6)
MINTS = [(1,), (2,), (1, 2), (1, 3), (1, 2, 5), (2, 3), (1, 4, 5, 7), (1, 2, 3, 4, 5, 6), (1, COIN), (1, 3, 9, 27)]


def serving_of(kinds, count, people):
    """All ascending rows of so many coins of these kinds that serve."""
    return [row for row in combinations_with_replacement(sorted(kinds), count) if serves_by_formula(row, people)]


def layers_by_pools(kinds, most, total, people):
    """The layers 0 to most, by all serving pools."""
    return [
        tuple(sorted({sum(row) for row in serving_of(kinds, count, people) if sum(row) <= total}))
        for count in range(most + 1)
    ]


class Kinds(Case):
    def test_kinds_come_back_ascending(self):
        self.same(check_kinds([5, 1, 2]), (1, 2, 5))
        self.same(check_kinds((COIN,)), (COIN,))
        self.same(check_kinds((6, 5, 4, 3, 2, 1)), (1, 2, 3, 4, 5, 6))

    def test_wrong_kinds(self):
        self.fails(BadKinds, (0, "many"), check_kinds, ())
        self.fails(BadKinds, (0, "many"), check_kinds, (0,) * 7)
        self.fails(BadKinds, (1, "twice"), check_kinds, [2, 2, 0])
        self.fails(BadKinds, (1, "kind"), check_kinds, [2, 0, 2])
        self.fails(BadKinds, (1, "kind"), check_kinds, [1, True])
        self.fails(BadKinds, (5, "twice"), check_kinds, [1, 2, 3, 4, 5, 1])

    def test_kinds_that_are_let(self):
        for kinds in MINTS:
            for people in PEOPLE:
                for total in (0, 1, 2, 3, 7, 10, 26, COIN, 10 ** 12):
                    wanted = tuple(kind for kind in kinds if (kind - 1) * (people - 1) <= total)
                    self.same(kinds_let(kinds[::-1], total, people), wanted)
                    self.assertEqual(wanted, tuple(kind for kind in kinds if kind <= room_of(total, people)))


class PoolsOfKinds(Case):
    def test_all_pools_once_ascending(self):
        for kinds in MINTS:
            for people in PEOPLE:
                for count in range(7):
                    pools = list(all_minted(list(kinds)[::-1], count, people))
                    self.assertEqual(pools, serving_of(kinds, count, people))
                    self.assertEqual(pools, sorted(set(pools)))

    def test_the_greatest_total(self):
        for kinds in MINTS:
            for people in PEOPLE:
                for count in range(8):
                    totals = [sum(row) for row in serving_of(kinds, count, people)]
                    self.assertEqual(greatest_from(kinds[::-1], count, people), max(totals) if totals else None)
        self.assertEqual(greatest_from((1, 2, 4, 8, 16, 32), 12, 2), 31 + 7 * 32)

    def test_no_coins(self):
        for kinds in MINTS:
            self.assertEqual(greatest_from(kinds, 0, 2), 0)
            self.assertEqual(list(all_minted(kinds, 0, 2)), [()])

    def test_no_kind_of_one(self):
        self.assertIsNone(greatest_from((2, 3), 1, 2))
        self.assertIsNone(greatest_from((COIN,), 12, 5))
        self.assertEqual(list(all_minted((2, 3), 1, 2)), [])


class FewestCoins(Case):
    def test_the_example_of_the_document(self):
        self.same(fewest_from((1, 3), 5, 2), Minted((1, 1, 3), ((0,), (1,), (2,))))
        self.same(fewest_from((1, 3), 4, 2), Minted((1, 1, 1, 1), ((0,), (1,), (2,), (3,))))

    def test_a_pool_of_the_fewest_coins_or_none(self):
        for kinds in [mint for mint in MINTS if len(mint) < 4] + [(1, 3, 9, 27)]:
            for people in PEOPLE:
                layers = layers_by_pools(kinds, 12, 60, people)
                for total in list(range(25)) + [39, 60]:
                    self.check(kinds, total, people, [
                        tuple(sum_ for sum_ in layer if sum_ <= total) for layer in layers
                    ])

    def check(self, kinds, total, people, layers):
        answer = fewest_from(list(kinds)[::-1], total, people)
        counts = [count for count, layer in enumerate(layers) if total in layer]
        if counts:
            self.assertIsInstance(answer, Minted)
            self.same(answer.layers, tuple(layers[: counts[0]]))
            self.assertIn(answer.pool, serving_of(kinds, counts[0], people))
            self.assertEqual(sum(answer.pool), total)
            self.same(answer.pool, tuple(sorted(answer.pool)))
        else:
            empty = [count for count, layer in enumerate(layers) if not layer]
            self.same(answer, NoMint(tuple(layers[: empty[0] + 1] if empty else layers)))
        self.assertIsNone(mint_fault(kinds, total, people, answer))

    def test_a_total_of_nothing(self):
        for kinds in MINTS:
            for people in PEOPLE:
                self.same(fewest_from(kinds, 0, people), Minted((), ()))

    def test_no_pool_of_at_most_twelve_coins(self):
        self.same(fewest_from((2, 3), 5, 2), NoMint(((0,), ())))
        self.same(fewest_from((1,), 13, 2), NoMint(tuple((count,) for count in range(13))))
        self.same(fewest_from((1,), 12, 2), Minted((1,) * 12, tuple((count,) for count in range(12))))
        self.same(fewest_from((1, COIN), 200, 5), NoMint(tuple((count,) for count in range(13))))

    def test_the_greatest_totals(self):
        with at_once():
            for people in PEOPLE:
                for total in range(180, 201):
                    answer = fewest_from((1, 2, 4, 8, 16, 32), total, people)
                    self.assertIsNone(mint_fault((32, 16, 8, 4, 2, 1), total, people, answer))
            answer = fewest_from((1, 2, 4, 8, 16, 32), 200, 2)
            self.assertEqual((sum(answer.pool), serves_by_formula(answer.pool, 2)), (200, True))


class Judged(Case):
    def test_any_pool_of_the_fewest_coins_is_right(self):
        several = 0
        for kinds in ((1, 2, 3), (1, 2, 4, 5), (1, 2, 3, 4, 5, 6)):
            for people in PEOPLE:
                for total in range(1, 19):
                    answer = fewest_from(kinds, total, people)
                    pools = all_minted(kinds, len(answer.pool), people) if len(answer.pool) < 7 else ()
                    right = [pool for pool in pools if sum(pool) == total]
                    several += len(right) > 1
                    for pool in right:
                        told = Minted(list(pool)[::-1], listed(answer.layers))
                        self.assertIsNone(mint_fault(kinds, total, people, told))
        self.assertGreater(several, 5)

    def test_wrong_pools(self):
        layers = ((0,), (1,), (2,))
        self.assertIsNone(mint_fault((1, 3), 5, 2, Minted((3, 1, 1), layers)))
        wrong = [(1, 1, 1, 1, 1), (1, 1, 2), (1, 1, 3, 3), (1, 3), (2, 3), (5,), (), (True, 1, 3), (1, 1, 1, 2)]
        for pool in wrong + [None, "113", {}, (1, "1", 3), (1, None, 3), (1.0, 1, 3), (0, 1, 1, 3), (-1, 1, 1, 1, 3)]:
            self.assertEqual(mint_fault((1, 3), 5, 2, Minted(pool, layers)), "pool")
        self.assertEqual(mint_fault((1, 3), 4, 2, Minted((1, 3), ((0,), (1,)))), "pool")
        self.assertEqual(mint_fault((1, 3), 5, 2, Minted((1, 2, 2), layers)), "pool")
        layers = ((0,), (1,), (2,), (3, 4))
        self.assertIsNone(mint_fault((1, 2, 3), 6, 3, Minted((1, 1, 2, 2), layers)))
        self.assertEqual(mint_fault((1, 2, 3), 6, 3, Minted((1, 1, 1, 3), layers)), "pool")
        self.assertEqual(mint_fault((1,), 13, 2, Minted((1,) * 13, ())), "pool")
        self.assertEqual(mint_fault((2, 3), 5, 2, Minted((2, 3), ((0,), ()))), "pool")
        self.assertEqual(mint_fault((1, 3), 5, 2, Minted((1, 3), None)), "pool")

    def test_pools_for_totals_that_no_pool_has(self):
        layers = fewest_from((1,), 13, 2).layers
        for pool in ((), (1,) * 12, (1,) * 13, (13,)):
            self.assertEqual(mint_fault((1,), 13, 2, Minted(pool, layers)), "pool")

    def test_none_though_there_is_a_pool(self):
        self.assertEqual(mint_fault((1, 3), 5, 2, NoMint(((0,), (1,), (2,)))), "pool")
        self.assertEqual(mint_fault((1, 3), 0, 2, NoMint(())), "pool")
        self.assertEqual(mint_fault((1,), 12, 2, NoMint(tuple((count,) for count in range(13)))), "pool")
        self.assertIsNone(mint_fault((1,), 13, 2, NoMint([[count] for count in range(13)])))

    def test_wrong_layers_of_a_pool(self):
        right = [[0], [1], [2]]
        self.assertIsNone(mint_fault((1, 3), 5, 2, Minted([1, 1, 3], right)))
        wrong = [None, (), "012", {}, right[:2], right + [[3, 5]], [[0], [1], [2, 5]], [[0], [1], []], [[0], [2], [1]]]
        wrong += [[[0], [True], [2]], [[False], [1], [2]], [[0], 1, [2]], [[0], None, [2]], [[0], [1, 1], [2]]]
        wrong += [[[0], {1: 1}, [2]], [[0], "1", [2]], [[0], ["1"], [2]], [[0], [None], [2]]]
        for layers in wrong:
            self.assertEqual(mint_fault((1, 3), 5, 2, Minted((1, 1, 3), layers)), "layers")
        self.assertEqual(mint_fault((1, 2), 6, 2, Minted((1, 2, 1, 2), [[0], [1], [3, 2], [3, 4, 5]])), "layers")
        self.assertIsNone(mint_fault((1, 2), 6, 2, Minted((1, 2, 1, 2), [[0], [1], [2, 3], [3, 4, 5]])))
        self.assertEqual(mint_fault((1,), 0, 2, Minted((), ((0,),))), "layers")

    def test_wrong_layers_of_none(self):
        self.assertIsNone(mint_fault((2, 3), 5, 2, NoMint([(0,), []])))
        for layers in (None, (), ((0,),), ((0,), (), ()), ((0,), (1,)), ((0,), None)):
            self.assertEqual(mint_fault((2, 3), 5, 2, NoMint(layers)), "layers")
        counts = [(count,) for count in range(13)]
        for layers in (counts[:12], counts + [(13,)], counts[:12] + [()], [[0]] * 13):
            self.assertEqual(mint_fault((1,), 14, 2, NoMint(layers)), "layers")


class Bounds(Case):
    def test_the_first_wrong_argument_is_told(self):
        self.fails(BadKinds, (0, "kind"), all_minted, (0,), 7, 1)
        self.fails(BadCount, (6,), all_minted, (1,), 7, 1)
        self.fails(BadPeople, (), all_minted, (1,), 6, 1)
        self.fails(BadCount, (12,), greatest_from, (2,), 13, 1)
        self.fails(BadPeople, (), greatest_from, (2,), 12, 1)
        self.fails(BadTotal, (10 ** 12,), kinds_let, (1,), 10 ** 12 + 1, 1)
        self.fails(BadTotal, (200,), fewest_from, (1,), 201, 1)
        self.fails(BadPeople, (), fewest_from, (1,), 200, 6)
        self.fails(BadTotal, (200,), mint_fault, (1,), 201, 1, None)
        self.fails(BadPeople, (), mint_fault, (1,), 200, 1, None)


if __name__ == "__main__":
    unittest.main()
