"""0.4, 0.5 and 0.7: every argument of every function, wrong and right, in the told order."""

import copy
import unittest

from anyworths import asking, bands, bearing, books, breaking, chains, cheapest, coming, debtrows, debts, debttext
from anyworths import draining, edits, exchanges, finer, freedom, goals, going, greedy, guessing, holding, lasting
from anyworths import leastpools, leaving, losses, lots, mends, mints, moving, nextcoins, payments, pieceranks, pieces
from anyworths import playing, pools, ranks, rations, searching, seeing, serving, splits, splittext, steps, town, wishes
from anyworths import withpaying
from anyworths.errors import BadAmount, BadBand, BadBook, BadCoin, BadCount, BadDebt, BadDebts, BadEdit, BadExchange
from anyworths.errors import BadGoal, BadHeaps, BadKinds, BadLost, BadLot, BadLots, BadMost, BadMove, BadNumber
from anyworths.errors import BadOrder, BadParts, BadPeople, BadPerson, BadPool, BadRation, BadSeen, BadSplit, BadSplits
from anyworths.errors import BadStep, BadText, BadTotal, BadTurns, BadUnlike, BadWay, BadWish, CannotSee
from tests.roads import Case, has_list, listed, run

COIN = 10 ** 9
AMOUNT = 12 * 10 ** 9
NO_SEQUENCES = (None, True, 7, "112", "", {}, {1: 1}, {1, 2}, range(2), b"12", iter(()))
NO_NUMBERS = (None, True, False, "1", "", 1.0, {}, [1], (1,), b"1")


def whole(low, high, error, *attributes):
    """The wrong things in the place of a number from low to high."""
    return [(thing, error, attributes) for thing in NO_NUMBERS + (low - 1, high + 1)]


def pool_faults(error=BadPool):
    """The wrong things in the place of a pool."""
    faults = [(thing, error, (0, "many")) for thing in NO_SEQUENCES + ((1,) * 13, [1] * 14, (None,) * 13)]
    for thing in NO_NUMBERS + (0, -1, COIN + 1):
        faults.append(([thing], error, (0, "coin")))
        faults.append(((1, thing, 2), error, (1, "coin")))
        faults.append(((1, 2, COIN, thing, None), error, (3, "coin")))
    return faults


def wish_faults(total, people):
    """The wrong things in the place of a wish of so many people with this total."""
    faults = [(thing, BadWish, (0, "many")) for thing in NO_SEQUENCES + ((), [], (0,) * 6, (None,) * 6)]
    for thing in NO_NUMBERS + (-1, AMOUNT + 1):
        faults.append(((thing, total), BadWish, (0, "number")))
        faults.append(([total, thing, None], BadWish, (1, "number")))
    faults.append(((0,) * people, BadWish, (people, "sum")))
    faults.append(((total, 0, 1), BadWish, (3, "sum")))
    faults.append(([total - 1], BadWish, (1, "sum")))
    return faults


def split_faults():
    """The wrong things in the place of a split that stands alone."""
    faults = [(thing, BadSplit, (0, "many")) for thing in NO_SEQUENCES + ((), [], ((),) * 6, [None] * 6)]
    for thing, _, _ in pool_faults():
        faults.append(([thing, ()], BadSplit, (0, "purse")))
        faults.append((((1,), [], thing, None), BadSplit, (2, "purse")))
    faults.append((((1,) * 7, (1,) * 6, None), BadSplit, (1, "coins")))
    faults.append(([[1] * 12, [], [2]], BadSplit, (2, "coins")))
    return faults


def ration_faults(total):
    """The wrong things in the place of a ration of a pool with this total."""
    faults = [(thing, BadRation, (0, "many")) for thing in NO_SEQUENCES + ((), [], (0,) * 6, [None] * 6)]
    for thing in NO_NUMBERS + (-1, -AMOUNT):
        faults.append(((thing, total + 1), BadRation, (0, "number")))
        faults.append(([total, thing, None], BadRation, (1, "number")))
    faults.append(((total + 1, None), BadRation, (0, "sum")))
    faults.append(([0, 10 ** 30], BadRation, (1, "sum")))
    faults.append(((1, total - 1, 0, 1), BadRation, (3, "sum")))
    return faults


def kinds_faults():
    """The wrong things in the place of the kinds of a mint."""
    many = NO_SEQUENCES + ((), [], (1, 2, 3, 4, 5, 6, 7), [None] * 7)
    faults = [(thing, BadKinds, (0, "many")) for thing in many]
    for thing in NO_NUMBERS + (0, -1, COIN + 1):
        faults.append(([thing], BadKinds, (0, "kind")))
        faults.append(((2, 1, thing, 2), BadKinds, (2, "kind")))
    faults.append(((1, 1, None), BadKinds, (1, "twice")))
    faults.append(([3, 1, 2, 3], BadKinds, (3, "twice")))
    return faults


def debts_faults():
    """The wrong things in the place of bare debts."""
    good = (0, 1, 1)
    faults = [(thing, BadDebts, (0, "many")) for thing in NO_SEQUENCES + ((good,) * 13, [None] * 13)]
    wrong = NO_SEQUENCES + ((), (0, 1), (0, 1, 1, 1), (1, 1, 1), (0, 1, 0), (0, 1, AMOUNT + 1), (0, 5, 1), (-1, 0, 1))
    for thing in NO_NUMBERS:
        wrong += ((thing, 1, 1), (0, thing, 1), [0, 2, thing])
    for thing in wrong:
        faults.append(([thing], BadDebts, (0, "debt")))
        faults.append(((good, [1, 0, 2], thing, None), BadDebts, (2, "debt")))
    return faults


def order_faults(people):
    """The wrong things in the place of an order of so many persons."""
    names = tuple(range(people))
    wrong = NO_SEQUENCES + ((), names[1:], names + (people,), names[1:] + (people,), (0,) * people, (-1,) + names[1:])
    wrong += tuple(names[:-1] + (thing,) for thing in NO_NUMBERS) + tuple((thing,) + names[1:] for thing in NO_NUMBERS)
    return [(thing, BadOrder, ()) for thing in wrong]


def debt_faults():
    """The wrong things in the place of a debt of the split (2,), (), (1, 1)."""
    wrong = NO_SEQUENCES + ((), (0, 2), (0, 2, 1, 1))
    for thing in NO_NUMBERS:
        wrong += ((thing, 2, 1), [0, thing, 1], (0, 2, thing), [9, 9, thing])
    faults = [(thing, BadDebt, ("debt",)) for thing in wrong]
    for thing in ((0, 0, 1), (3, 0, 1), (0, 3, 1), (-1, 0, 1), [0, -1, 0], (5, 6, 0)):
        faults.append((thing, BadDebt, ("persons",)))
    for thing in ((0, 2, 0), (0, 2, -1), (0, 2, 3), (1, 2, 1), [2, 0, 3], (0, 1, 10 ** 40)):
        faults.append((thing, BadDebt, ("amount",)))
    return faults


def row_faults():
    """The wrong things in the place of a row of debts of the split (2,), (), (1, 1)."""
    good = (0, 2, 1)
    faults = [(thing, BadDebts, (0, "many")) for thing in NO_SEQUENCES + ((good,) * 13, [None] * 13)]
    for thing, _, (what,) in debt_faults():
        faults.append(([thing, None], BadDebts, (0, what)))
        # Behind the first two debts all worths are as before.
        faults.append(((good, [2, 0, 1], thing, None), BadDebts, (2, what)))
    return faults


def couple_faults(other):
    """The wrong things in the place of the one person of a debt whose other person is told."""
    return [(thing, BadDebt, ("persons",)) for thing in NO_NUMBERS + (-1, 3, other)]


def band_faults():
    """The wrong things in the place of a band."""
    wrong = [thing for thing in NO_SEQUENCES if thing is not None] + [(), (1,), (0, 1, 2)]
    faults = [(thing, BadBand, ("band",)) for thing in wrong]
    faults += [((thing, -1), BadBand, ("low",)) for thing in NO_NUMBERS + (-1, AMOUNT + 1)]
    for thing in NO_NUMBERS + (2, -1, AMOUNT + 1):
        if thing is not None:
            faults.append(([3, thing], BadBand, ("high",)))
    return faults


def exchange_faults():
    """The wrong things in the place of an exchange of the split (2,), (), (1, 1)."""
    wrong = NO_SEQUENCES + ((), (0, 2, (2,)), (0, 2, (2,), (1, 1), ()))
    faults = [(thing, BadExchange, (0, "exchange")) for thing in wrong]
    for thing in NO_NUMBERS + (-1, 3):
        faults.append(((thing, 2, None, None), BadExchange, (0, "persons")))
        faults.append(([0, thing, None, None], BadExchange, (0, "persons")))
    for thing, _, _ in pool_faults():
        faults.append(((0, 2, thing, None), BadExchange, (0, "lot")))
        faults.append(([0, 2, (2,), thing], BadExchange, (0, "back")))
    for thing, word in (((2, 0, (), ()), "persons"), ((0, 2, (1,), ()), "lot"), ((0, 2, (2,), (2,)), "back"),
                        ((0, 2, (2,), (1,)), "sums"), ([0, 2, [], ()], "sums")):
        faults.append((thing, BadExchange, (0, word)))
    return faults


def exchanges_faults():
    """The wrong things in the place of exchanges of the split (2,), (), (1, 1)."""
    there = ((0, 2, (2,), (1, 1)), (0, 2, (1, 1), (2,)))
    faults = [(thing, BadExchange, (0, "many")) for thing in NO_SEQUENCES + (there * 200 + there[:1], [None] * 401)]
    for thing, _, (_, what) in exchange_faults():
        faults.append(([thing, None], BadExchange, (0, what)))
        faults.append(((there[0], list(there[1]), thing, None), BadExchange, (2, what)))
    return faults


def moves_faults():
    """The wrong things in the place of moves of the split (2,), (), (1, 1)."""
    there = ((2, 0, 1), [2, 1, 0])
    faults = [(thing, BadMove, (0, "many")) for thing in NO_SEQUENCES + (there * 51, [None] * 101)]
    wrong = [(thing, "move") for thing in NO_SEQUENCES + ((), (2, 0), (2, 0, 1, 0))]
    for thing in NO_NUMBERS:
        wrong += [((thing, 9, 9), "move"), ((1, thing, 0), "move"), ([1, 2, thing], "move")]
    wrong += [((9, 0, 0), "persons"), ((2, 0, 3), "persons"), ([9, -1, 0], "persons"), ((1, 0, 1), "coin"), (
        (0, 0, 1), "coin")]
    for thing, word in wrong:
        faults.append(([thing, None], BadMove, (0, word)))
        faults.append((there + (thing, None), BadMove, (2, word)))
    return faults


def lots_faults(most, many):
    """The wrong things in the place of at most so many newcomers' lots to a pool of so many coins."""
    faults = [(thing, BadLots, (0,)) for thing in NO_SEQUENCES + (((),) * (most + 1), [None] * (most + 1))]
    for thing, _, _ in pool_faults():
        faults.append(([thing, None], BadLots, (0,)))
        faults.append((((1,), thing), BadLots, (1,)))
    faults.append(([(1,) * (12 - many), (9,)], BadLots, (1,)))
    return faults


POOL = ((1, 1, 2), pool_faults())
PEOPLE = (3, whole(1, 5, BadPeople))
TWO_PEOPLE = (3, whole(2, 5, BadPeople))
AMOUNTS = (2, whole(0, AMOUNT, BadAmount))
SPLIT = (((2,), (), (1, 1)), split_faults())
WISH = ((3, 1, 0), wish_faults(4, 3))
TEXTS = [(thing, BadText, (0, "text")) for thing in (None, True, 7, b"1", ["1"], ("1",), {}, 1.0)]
KINDS = ((1, 3), kinds_faults())
FREE = []
LOST = (1, whole(0, 12, BadLost))
LOT = ((1, 2), pool_faults())
EVEN = ((2, 2, 4), pool_faults())
DEBT = ((0, 2, 1), debt_faults())
DEBTOR = (0, couple_faults(2))
CREDITOR = (2, couple_faults(0))
ROW = (((0, 2, 1), (2, 0, 3)), row_faults())
BAND = ((0, 3), band_faults())
# Bands of a split with the worths 2, 0 and 2.
AROUND = ((0, 3), band_faults() + [(thing, BadBand, ("worths",)) for thing in ((1, None), (0, 1), [3, 4], (1, 3))])
MOST = (2, [fault for fault in whole(1, AMOUNT, BadAmount) if fault[0] is not None])
NO_STEPS = [(thing, BadStep, ()) for thing in NO_NUMBERS + (0, -1)]
WISH_ALONE = [fault for fault in wish_faults(4, 3) if fault[2][1] != "sum"]
JOINT = ((1, 1), pool_faults() + [((3,), BadLot, ()), ((2,), BadParts, ()), ((), BadParts, ())])
WAY = ((1,), (), (1, 2))


def count_to(most):
    return 3, whole(0, most, BadCount, most)


def total_to(most):
    return 4, whole(0, most, BadTotal, most)


def first_able(coin, lacks):
    return [person for person, lack in enumerate(lacks) if lack >= coin][0]


def ask_once(now):
    return (0, 2, 1) if now == SPLIT[0] else None


def keyed(function, many):
    """The function with band and most, which are given by keyword alone, as arguments behind so many others."""
    def call(*told):
        return run(function, *told[:many], **dict(zip(("band", "most"), told[many:])))

    call.__name__ = function.__name__
    return call


def chosen_longest(pool, people, **more):
    """What the chooser of these arguments chooses at once."""
    return breaking.longest_chooser(pool, people, **more)(SPLIT[0], (0, 2, 1), (WAY,))


def person_faults(*others):
    """The wrong things in the place of one of three unlike persons."""
    return [(thing, BadPerson, ()) for thing in NO_NUMBERS + (-1, 3) + others]


def seens_faults(people):
    """The wrong things in the place of seens among so many people."""
    good = (0, 1, (2,), (1,))
    faults = [(thing, BadSeen, (0, "many")) for thing in NO_SEQUENCES + ((good,) * 9, [None] * 9)]
    wrong = [(thing, "seen") for thing in NO_SEQUENCES + ((), good[:3], good + ((),))]
    for thing in NO_NUMBERS + (-1, people, 1):
        wrong.append(((thing, 1, None, None), "persons"))
    for thing in NO_NUMBERS + (-1, people, 0):
        wrong.append(([0, thing, None, None], "persons"))
    for thing in [thing for thing, _, _ in pool_faults()] + [()]:
        wrong.append(((0, 1, thing, None), "over"))
    for thing, _, _ in pool_faults():
        wrong.append(([0, 1, [2], thing], "back"))
    wrong += [((0, 1, (2,), (1, 1)), "amount"), ((0, 1, (1,), (2,)), "amount")]
    for thing, word in wrong:
        faults.append(([thing, None], BadSeen, (0, word)))
        faults.append(((good, list(good), thing, None), BadSeen, (2, word)))
    return faults


def edit_words():
    """The wrong things in the place of an edit, with their words."""
    words = [(thing, "edit") for thing in NO_SEQUENCES + ((), ("put",), ("put", 1, 1), ("break", 2), ("join", 1))]
    for thing in NO_NUMBERS + ("Put", ["put"], {}):
        words.append(((thing, 1), "edit"))
    for thing in NO_NUMBERS + (0, -1, COIN + 1):
        words += [(("put", thing), "coin"), (["take", thing], "coin"), (("break", thing, None), "coin")]
        words += [(("join", thing, None), "coin"), (("join", 1, thing), "coin")]
    for thing in [thing for thing, _, _ in pool_faults()] + [(), (3,), (1, 1), (1, 3)]:
        words.append((("break", 3, thing), "parts"))
    return words


def edits_faults(least, most):
    """The wrong things in the place of at least and at most so many edits."""
    good = ("put", 1)
    many = NO_SEQUENCES + ((good,) * (most + 1), [None] * (most + 1)) + (() if least == 0 else ((), []))
    faults = [(thing, BadEdit, (0, "many")) for thing in many]
    for thing, word in edit_words():
        faults.append(([thing, None], BadEdit, (0, word)))
        faults.append(((good, ["take", 9], thing, None), BadEdit, (2, word)))
    return faults


def goals_faults():
    """The wrong things in the place of goals."""
    good = ("serves", 1)
    faults = [(thing, BadGoal, (0,)) for thing in NO_SEQUENCES + ((), [], (good,) * 7, [None] * 7)]
    wrong = NO_SEQUENCES + ((), ("serves",), ("serves", 1, 1), ("at most", 1, 1), ("lasting", 1, None), ("finer",))
    wrong += (("total", 3, 2), ("leaves", 1, 1), ("Serves", 1), (["serves"], 1), ({}, 1))
    for thing in NO_NUMBERS + (-1, 10 ** 11):
        wrong += (("serves", thing), ("serves after", 2, thing), ["at most", thing], ("total", thing, COIN))
        wrong += (("total", 0, thing), ("leaves", thing, 1), ("leaves", 2, thing), ("lasting", thing, None, None))
    for thing, _, _ in pool_faults():
        wrong += (("finer", thing),)
    for thing, _, _ in band_faults():
        wrong += (("lasting", 2, thing, None),)
    for thing, _, _ in MOST[1]:
        wrong += (["lasting", 2, None, thing],)
    for thing in wrong:
        faults.append(([thing, None], BadGoal, (0,)))
        faults.append(((good, ["at most", 12], thing, None), BadGoal, (2,)))
    return faults


EXCHANGE = ((0, 2, (2,), (1, 1)), exchange_faults())
PERSON = (2, whole(0, 2, BadPerson))
WORTH = (2, whole(0, 4, BadAmount))
# Another split of the same pool, and what is none.
SECOND = (((1,), (), (1, 2)), split_faults() + [
    (((1, 1, 2), ()), BadSplits, ("people",)), (((2,), (), (2,)), BadSplits, ("pool",)),
    ([[], (), ()], BadSplits, ("pool",))])
RANKS = pieceranks.ranks_with((1, 1, 2), 3)
WORTHS = ((2, 2), wish_faults(4, 2))
SEENS = (((0, 1, (2,), (1,)), (1, 0, (2,), ())), seens_faults(2))
SEENS_OF_THREE = (((0, 2, (2,), (1,)),), seens_faults(3) + [
    (((0, 1, (1,), ()),), CannotSee, (0,)), ([[0, 2, [2], [1]], (0, 2, (2,), ())], CannotSee, (1,))])
# A debt among two people with the worths 3 and 1, behind those seens.
DEBT_NOW = ((0, 1, 3), [(None, BadDebt, ("debt",)), ([0, 1, True], BadDebt, ("debt",)), ((0, 2, 1), BadDebt, (
    "persons",)), ((1, 1, 1), BadDebt, ("persons",)), ((0, 1, 4), BadDebt, ("amount",)), ((1, 0, 2), BadDebt, (
        "amount",)), ((0, 1, 0), BadDebt, ("amount",))])
EDIT = (("break", 2, (1, 1)), [(thing, BadEdit, (0, word)) for thing, word in edit_words()])
OFFER = ((("put", 3), ("join", 1, 2), ("break", 2, (1, 1))), edits_faults(1, 5))
GOALS = ((("serves", 3), ("total", 5, 9), ("finer", (2, 5)), ("lasting", 2, (0, 3), 1)), goals_faults())
# What check_split tells of splits of this pool among three people.
NO_SPLITS = [(None, BadSplit, (0, "many")), (((1,), (1, 2)), BadSplit, (0, "many")), ([(), [0], ()], BadSplit, (
    1, "purse")), (((1,), (2,), (2,)), BadSplit, (2, "coin")), (((1,), (2,), ()), BadSplit, (3, "lacking"))]
BOOK = books.book_of((1, 1, 2), 3, band=(1, None))
CALLS = [
    (pools.check_pool, [POOL]),
    (pools.check_people, [PEOPLE]),
    (pools.check_people, [TWO_PEOPLE, (2, FREE)]),
    (pools.check_people, [(5, whole(5, 5, BadPeople)), (5, FREE)]),
    (pools.check_person, [(3, FREE), (2, whole(0, 2, BadPerson))]),
    (pools.check_person, [(1, FREE), (0, whole(0, 0, BadPerson))]),
    (pools.check_amount, [AMOUNTS]),
    (pools.check_amount, [(1, whole(1, AMOUNT, BadAmount)), (1, FREE)]),
    (pools.total_of, [POOL]),
    (pools.counted_coins, [POOL]),
    (lots.all_lots, [POOL]),
    (lots.lots_with, [POOL, AMOUNTS]),
    (lots.count_lots, [POOL]),
    (lots.lot_with, [POOL, AMOUNTS]),
    (lots.sums_of, [POOL]),
    (lots.has_lot, [POOL, ((1, 2), pool_faults())]),
    (lots.less_lot, [POOL, ((1, 2), pool_faults())]),
    (lots.joined_pools, [POOL, ((1, 2), pool_faults())]),
    (splits.check_purses, [SPLIT]),
    (splits.check_split, [POOL, PEOPLE, (((2,), (), (1, 1)), FREE)]),
    (splits.renamed_split, [SPLIT, ((2, 0, 1), order_faults(3))]),
    (splits.pool_of, [SPLIT]),
    (splits.worths_of, [SPLIT]),
    (splits.all_splits, [POOL, PEOPLE]),
    (splits.count_splits, [POOL, PEOPLE]),
    (splits.split_number, [SPLIT]),
    (splits.split_by_number, [POOL, PEOPLE, (7, whole(0, 17, BadNumber))]),
    (wishes.check_wish, [WISH, (4, FREE)]),
    (wishes.even_wish, [AMOUNTS, PEOPLE]),
    (wishes.all_wishes, [AMOUNTS, PEOPLE]),
    (wishes.count_wishes, [AMOUNTS, PEOPLE]),
    (splittext.coins_text, [POOL]),
    (splittext.split_text, [SPLIT]),
    (splittext.parse_coins, [("1 1 2", TEXTS)]),
    (splittext.parse_split, [("1 | - | 2", TEXTS)]),
    (debttext.wish_text, [((3, 1), WISH_ALONE)]),
    (debttext.debts_text, [(((0, 1, 2), (3, 0, 1)), debts_faults())]),
    (debttext.parse_wish, [("3 1", TEXTS)]),
    (debttext.parse_debts, [("0 owes 1 2", TEXTS)]),
    (serving.failing_places, [POOL, PEOPLE]),
    (serving.serves, [POOL, PEOPLE]),
    (serving.most_people, [POOL]),
    (serving.most_people_row, [POOL]),
    (serving.short_room, [POOL, WISH]),
    (serving.unserved_fault, [POOL, PEOPLE, (serving.Unserved(0, (4, 0, 0)), FREE)]),
    (greedy.greatest_first, [POOL, WISH]),
    (greedy.hand_out, [POOL, WISH, (first_able, FREE)]),
    (greedy.giving_steps, [POOL, WISH]),
    (searching.layers_of, [POOL, WISH]),
    (searching.any_split, [POOL, WISH]),
    (searching.layers_fault, [POOL, WISH, (((), ()), FREE)]),
    (searching.given_wishes, [POOL, PEOPLE]),
    (searching.wishes_given, [POOL, PEOPLE]),
    (searching.first_missing, [POOL, PEOPLE]),
    (searching.misled_wish, [POOL, PEOPLE]),
    (holding.splits_for, [POOL, WISH]),
    (holding.count_splits_for, [POOL, WISH]),
    (holding.held_range, [POOL, WISH, (1, [(thing, BadCoin, ()) for thing in NO_NUMBERS + (0, 3, COIN + 1)])]),
    (rations.check_ration, [POOL, ((1, 2), ration_faults(4))]),
    (rations.greatest_ration, [POOL, PEOPLE]),
    (rations.serves_rations, [POOL, PEOPLE, (2, whole(0, 4, BadMost))]),
    (rations.hand_rations, [POOL, ((1, 2), ration_faults(4))]),
    (leastpools.room_of, [total_to(10 ** 12), TWO_PEOPLE]),
    (leastpools.greatest_total, [count_to(60), TWO_PEOPLE]),
    (leastpools.totals_row, [count_to(60), TWO_PEOPLE]),
    (leastpools.fewest_coins, [total_to(10 ** 9), TWO_PEOPLE]),
    (leastpools.greatest_coin, [total_to(10 ** 9), TWO_PEOPLE]),
    (leastpools.least_total_with, [(3, whole(1, COIN, BadCoin)), TWO_PEOPLE]),
    (leastpools.fewest_with, [(3, whole(1, COIN, BadCoin)), TWO_PEOPLE]),
    (leastpools.pool_for, [count_to(12), total_to(10 ** 9), TWO_PEOPLE]),
    (leastpools.all_pools, [count_to(12), total_to(36), TWO_PEOPLE]),
    (leastpools.count_pools, [count_to(12), total_to(36), TWO_PEOPLE]),
    (leastpools.all_least, [total_to(36), TWO_PEOPLE]),
    (leastpools.greatest_unlike, [count_to(12), (2, whole(1, 12, BadUnlike)), TWO_PEOPLE]),
    (nextcoins.room_row, [POOL, TWO_PEOPLE]),
    (nextcoins.fitting_coins, [POOL, TWO_PEOPLE]),
    (nextcoins.next_coin, [POOL, TWO_PEOPLE]),
    (nextcoins.may_put, [POOL, (3, whole(1, COIN, BadCoin)), TWO_PEOPLE]),
    (nextcoins.mending_coins, [POOL, TWO_PEOPLE]),
    (mints.check_kinds, [KINDS]),
    (mints.kinds_let, [KINDS, total_to(10 ** 12), TWO_PEOPLE]),
    (mints.greatest_from, [KINDS, count_to(12), TWO_PEOPLE]),
    (mints.all_minted, [KINDS, count_to(6), TWO_PEOPLE]),
    (mints.fewest_from, [KINDS, total_to(200), TWO_PEOPLE]),
    (mints.mint_fault, [KINDS, total_to(200), TWO_PEOPLE, (mints.NoMint(((0,), (1,))), FREE)]),
    (losses.check_lost, [LOST]),
    (losses.serves_after, [POOL, PEOPLE, LOST]),
    (losses.fallen_fault, [POOL, PEOPLE, LOST, (losses.Fallen((1,), 2, (3, 0, 0)), FREE)]),
    (losses.felling_lots, [POOL, PEOPLE, LOST]),
    (losses.needed_coins, [POOL, PEOPLE]),
    (losses.most_lost, [POOL, PEOPLE]),
    (losses.most_people_after, [POOL, LOST]),
    (losses.loss_table, [POOL]),
    (bearing.greatest_bearing, [count_to(12), TWO_PEOPLE, LOST]),
    (bearing.bearing_pool, [count_to(12), total_to(10 ** 9), TWO_PEOPLE, LOST]),
    (bearing.all_bearing, [count_to(12), total_to(36), TWO_PEOPLE, LOST]),
    (bearing.fewest_bearing, [total_to(10 ** 9), TWO_PEOPLE, LOST]),
    (bearing.next_bearing, [POOL, TWO_PEOPLE, LOST]),
    (bearing.bearing_part, [POOL, TWO_PEOPLE, LOST]),
    (bearing.least_put, [POOL, TWO_PEOPLE, LOST]),
    (bearing.all_least_puts, [POOL, TWO_PEOPLE, LOST]),
    (finer.finer_heaps, [POOL, ((1, 3), pool_faults())]),
    (finer.is_finer, [POOL, ((1, 3), pool_faults())]),
    (finer.heaps_fault, [POOL, ((1, 3), pool_faults()), (((1,), (1, 2)), FREE)]),
    (finer.led_split, [SPLIT, (((1,), (1,), (1, 1)), [
        (None, BadHeaps, ("many",)), (((1,), (0,), ()), BadHeaps, ("heap",)), (((1,), (2,)) * 2, BadHeaps, ("many",)),
        (((1,), (2,), None), BadHeaps, ("sum",))])]),
    (finer.broken_coin, [
        POOL, (2, whole(1, COIN, BadCoin) + [(3, BadLot, ())]), ((1, 1), pool_faults() + [((2,), BadParts, ())])]),
    (finer.joined_coins, [POOL, JOINT]),
    (finer.may_join, [POOL, PEOPLE, JOINT]),
    (finer.good_joins, [POOL, PEOPLE]),
    (steps.step_of, [POOL]),
    (steps.check_step, [EVEN, (2, NO_STEPS + [(4, BadStep, ())])]),
    (steps.parted_pool, [EVEN, (2, NO_STEPS + [(4, BadStep, ())])]),
    (steps.times_pool, [POOL, (3, NO_STEPS + [(COIN, BadPool, (2, "coin"))])]),
    (steps.serves_steps, [EVEN, PEOPLE, (2, NO_STEPS + [(4, BadStep, ())])]),
    (steps.step_wishes, [AMOUNTS, PEOPLE, (2, NO_STEPS)]),
    (steps.serving_step, [EVEN, PEOPLE]),
    (steps.near_wish, [((3, 1), WISH_ALONE), (2, NO_STEPS + [(3, BadStep, ())])]),
    (steps.near_split, [POOL, WISH]),
    (debts.check_debt, [SPLIT, DEBT]),
    (debts.all_debts, [SPLIT, MOST]),
    (debts.count_debts, [SPLIT, MOST]),
    (debts.paid_amounts, [SPLIT, DEBTOR, CREDITOR]),
    (debts.unpaid_ranges, [SPLIT, DEBTOR, CREDITOR]),
    (debts.unpaid_debts, [SPLIT, MOST]),
    (debts.count_unpaid, [SPLIT, MOST]),
    (payments.can_pay, [SPLIT, DEBT]),
    (payments.ways_of, [SPLIT, DEBT]),
    (payments.first_way, [SPLIT, DEBT]),
    (payments.count_ways, [SPLIT, DEBT]),
    (payments.way_fault, [SPLIT, DEBT, (WAY, FREE)]),
    (payments.payment_of, [SPLIT, DEBT, (WAY, [(None, BadWay, ("purses",)), (((1,), ()), BadWay, ("people",))])]),
    (payments.after_payment, [SPLIT, DEBT, ((2,), pool_faults()), ((1,), pool_faults())]),
    (payments.exact_payment, [SPLIT, DEBT]),
    (freedom.greatest_unpaid, [SPLIT, DEBTOR, CREDITOR]),
    (freedom.pays_every, [SPLIT, DEBTOR, CREDITOR]),
    (freedom.free_pairs, [SPLIT]),
    (freedom.pays_all, [SPLIT]),
    (freedom.least_aid, [SPLIT, DEBTOR, CREDITOR]),
    (debtrows.check_debts, [SPLIT, ROW]),
    (debtrows.worths_after, [SPLIT, ROW]),
    (debtrows.play_row, [SPLIT, ROW]),
    (debtrows.count_plays, [SPLIT, ROW]),
    (debtrows.most_paid, [SPLIT, ROW]),
    (debtrows.worst_play, [SPLIT, ROW]),
    (debtrows.played_fault, [SPLIT, ROW, (debtrows.Played((SPLIT[0], WAY, ((1, 1, 2), (), ()))), FREE)]),
    (debtrows.unpaid_fault, [SPLIT, ROW, (debtrows.Unpaid((SPLIT[0],), (0, 2, 1)), FREE)]),
    (playing.play_debts, [SPLIT, ROW, (playing.choose_evenest, FREE)]),
    (playing.play_against, [
        SPLIT, (ask_once, FREE), (playing.choose_evenest, FREE), (3, whole(0, 400, BadTurns))]),
    (chains.chain_of, [SPLIT, DEBT]),
    (chains.chain_fault, [SPLIT, DEBT, (chains.Chain((0, 2), (SPLIT[0], WAY)), FREE)]),
    (bands.check_band, [BAND]),
    (keyed(bands.is_banded, 1), [SPLIT, BAND]),
    (keyed(bands.banded_splits, 2), [POOL, PEOPLE, BAND]),
    (keyed(bands.asked_debts, 1), [SPLIT, BAND, MOST]),
    (keyed(bands.is_asked, 2), [SPLIT, DEBT, BAND, MOST]),
    (keyed(lasting.lasting_splits, 2), [POOL, PEOPLE, BAND, MOST]),
    (keyed(lasting.lasting_wishes, 2), [POOL, PEOPLE, BAND, MOST]),
    (keyed(lasting.is_lasting, 1), [SPLIT, AROUND, MOST]),
    (lasting.lasts_for, [POOL, PEOPLE]),
    (lasting.widest_bands, [POOL, PEOPLE]),
    (lasting.least_low, [POOL, PEOPLE]),
    (keyed(books.book_of, 2), [POOL, PEOPLE, BAND, MOST]),
    (books.book_fault, [(BOOK, FREE)]),
    (BOOK.answer_to, [
        (((2,), (1,), (1,)), split_faults() + [(((1, 1), (2,), ()), BadBook, ("split",))]),
        ((0, 2, 1), [(None, BadDebt, ("debt",)), ((0, 3, 1), BadDebt, ("persons",)), ((0, 2, 3), BadDebt, ("amount",)),
                     ((1, 2, 1), BadBook, ("debt",))])]),
    (keyed(ranks.ranks_of, 2), [POOL, PEOPLE, BAND, MOST]),
    (keyed(ranks.rank_of, 1), [SPLIT, AROUND, MOST]),
    (keyed(ranks.ranks_fault, 3), [POOL, PEOPLE, ((0,) * 18, FREE), BAND, MOST]),
    (keyed(breaking.breaking_debt, 1), [SPLIT, AROUND, MOST]),
    (keyed(breaking.longest_way, 2), [SPLIT, DEBT, AROUND, MOST]),
    (keyed(chosen_longest, 2), [POOL, PEOPLE, BAND, MOST]),
    (keyed(breaking.play_breaking, 2), [SPLIT, (playing.choose_evenest, FREE), AROUND, MOST]),
    (draining.draining_debts, [SPLIT, (0, person_faults(1, 2)), (1, person_faults(0, 2)), (2, person_faults(0, 1))]),
    (draining.drain_bound, [SPLIT]),
    (exchanges.check_exchange, [SPLIT, EXCHANGE]),
    (exchanges.after_exchange, [SPLIT, EXCHANGE]),
    (exchanges.after_exchanges, [SPLIT, ((EXCHANGE[0], (0, 2, (1, 1), (2,))), exchanges_faults())]),
    (exchanges.is_least, [SPLIT, EXCHANGE]),
    (exchanges.exchanges_of, [SPLIT]),
    (exchanges.least_parts, [SPLIT, EXCHANGE]),
    (exchanges.resplits, [
        SPLIT, (0, [(thing, BadExchange, (0, "persons")) for thing in NO_NUMBERS + (-1, 3, 2)]),
        (2, [(thing, BadExchange, (0, "persons")) for thing in NO_NUMBERS + (-1, 3, 0)])]),
    (pieces.piece_of, [SPLIT]),
    (pieces.pieces_with, [POOL, WISH]),
    (pieces.all_pieces, [POOL, PEOPLE]),
    (pieces.joined_by, [SPLIT, (((1, 1), (), (2,)), split_faults())]),
    (pieces.piece_fault, [SPLIT, ((((2,), (), (1, 1)), ((1, 1), (), (2,))), FREE)]),
    (withpaying.paid_with, [SPLIT, DEBT]),
    (withpaying.paid_with_fault, [SPLIT, DEBT, (withpaying.PaidWith((), SPLIT[0], WAY), FREE)]),
    (withpaying.ways_with, [SPLIT, DEBT]),
    (withpaying.unpaid_with, [SPLIT, MOST]),
    (withpaying.always_paid, [EVEN, PEOPLE]),
    (lambda pool, people, most: pieceranks.ranks_with(pool, people, most=most), [EVEN, PEOPLE, MOST]),
    (RANKS.rank_at, [(((2,), (), (1, 1)), NO_SPLITS)]),
    (RANKS.breaking_at, [(((2,), (), (1, 1)), NO_SPLITS)]),
    (pieceranks.break_with, [(RANKS, FREE), (((2,), (), (1, 1)), NO_SPLITS), (playing.choose_evenest, FREE)]),
    (leaving.taken_lot, [POOL, WORTH]),
    (leaving.lots_leaving, [POOL, PEOPLE, WORTH]),
    (leaving.worths_leaving, [POOL, PEOPLE]),
    (leaving.leaves, [POOL, TWO_PEOPLE, WORTH]),
    (leaving.stays_fault, [POOL, TWO_PEOPLE, WORTH, (leaving.Stays(()), FREE)]),
    (leaving.all_leave, [POOL, WISH, ((2, 0, 1), order_faults(3))]),
    (leaving.first_leavers, [POOL, WISH]),
    (going.may_go, [SPLIT, PERSON]),
    (going.goes_with, [SPLIT, PERSON]),
    (coming.comes, [POOL, (3, whole(1, 4, BadPeople)), LOT]),
    (coming.come_all, [POOL, PEOPLE, (((1,), (2,)), lots_faults(2, 3))]),
    (coming.takes_over, [POOL, PEOPLE, WORTH, LOT]),
    (moving.fewest_moved, [SPLIT, SECOND]),
    (moving.moves_between, [SPLIT, SECOND]),
    (moving.after_moves, [SPLIT, (((2, 0, 1), (1, 2, 0)), moves_faults())]),
    (cheapest.fewest_in_payment, [SPLIT, DEBT]),
    (cheapest.fewest_to_wish, [SPLIT, (WISH[0], WISH[1] + [((4,), BadSplits, ("people",)), (
        [1, 1, 1, 1], BadSplits, ("people",))])]),
    (cheapest.cheapest_row, [SPLIT, ROW]),
    (seeing.check_seens, [(2, whole(1, 5, BadPeople)), SEENS]),
    (seeing.seen_payment, [SPLIT, DEBT, (WAY, [(None, BadWay, ("purses",)), (((1,), ()), BadWay, ("people",))])]),
    (seeing.least_lots, [(2, whole(1, 5, BadPeople)), SEENS]),
    (seeing.after_seens, [SPLIT, SEENS_OF_THREE]),
    (guessing.all_guesses, [POOL, WORTHS, SEENS]),
    (guessing.guesses_now, [POOL, WORTHS, SEENS]),
    (guessing.sure_coins, [POOL, WORTHS, SEENS]),
    (guessing.most_coins, [POOL, WORTHS, SEENS]),
    (guessing.sure_to_pay, [POOL, WORTHS, SEENS, DEBT_NOW]),
    (asking.best_question, [POOL, WORTHS, SEENS]),
    (asking.find_out, [POOL, WORTHS, ((), SEENS[1]), (lambda question: True, FREE)]),
    (asking.fewest_questions, [POOL, WORTHS, ((), SEENS[1])]),
    (edits.check_edits, [(OFFER[0], edits_faults(0, 20))]),
    (edits.does_fit, [POOL, EDIT]),
    (edits.pool_after, [POOL, (OFFER[0], edits_faults(0, 20))]),
    (goals.check_goals, [GOALS]),
    (goals.missed_goal, [POOL, GOALS]),
    (goals.missed_fault, [POOL, GOALS, (goals.Missed(1, 4), FREE)]),
    (mends.find_mends, [POOL, OFFER, GOALS]),
    (mends.mends_fault, [POOL, OFFER, GOALS, (mends.Mends((), ()), FREE)]),
    (mends.find_spoilers, [POOL, OFFER, GOALS]),
    (lambda split: town.Town(split).purses, [SPLIT]),
    (lambda debt, way: town.Town(SPLIT[0]).pay(debt, way), [
        DEBT, (WAY, [((), BadWay, ("purses",)), (((1,), ()), BadWay, ("people",))])]),
    (lambda told: town.Town(SPLIT[0]).exchange_lots(told), [EXCHANGE]),
    (lambda person: town.Town(SPLIT[0]).leave(person), [PERSON]),
    (lambda lot: town.Town(SPLIT[0]).come(lot), [LOT]),
]
# What a function takes in another order of its items, and means the same by.
UNORDERED = (POOL, EVEN, SPLIT, KINDS)


def turned(good, spec):
    """The same argument as lists, with its coins in another order."""
    if spec is SPLIT:
        return [list(purse)[::-1] for purse in good]
    return list(good)[::-1] if any(spec is one for one in UNORDERED) else listed(good)


class Arguments(Case):
    def test_each_wrong_argument_has_its_error(self):
        for function, specs in CALLS:
            good = [spec[0] for spec in specs]
            for at, (_, faults) in enumerate(specs):
                for thing, error, attributes in faults:
                    told = good[:at] + [thing] + good[at + 1:]
                    self.fails(error, attributes, function, *told)

    def test_of_two_wrong_arguments_the_first_is_told(self):
        for function, specs in CALLS:
            good = [spec[0] for spec in specs]
            for at, (_, faults) in enumerate(specs):
                later = [spec[1][::5] if spec[1] else [None] for spec in specs[at + 1:]]
                for thing, error, attributes in faults[::3]:
                    for behind, others in enumerate(later, at + 1):
                        for other in others:
                            told = list(good)
                            told[at] = thing
                            told[behind] = other[0] if other else None
                            self.fails(error, attributes, function, *told)

    def test_lists_in_any_order_do_as_well_as_tuples(self):
        for function, specs in CALLS:
            good = [spec[0] for spec in specs]
            others = [turned(spec[0], spec) for spec in specs]
            self.assertEqual(run(function, *good), run(function, *others), function)

    def test_what_is_passed_in_is_the_same_afterwards(self):
        for function, specs in CALLS:
            told = [turned(spec[0], spec) for spec in specs]
            before = copy.deepcopy(told)
            result = run(function, *told)
            self.assertEqual(told, before, function)
            kept = copy.deepcopy(result)
            for thing in told:
                if isinstance(thing, list):
                    for item in thing:
                        if isinstance(item, list):
                            item.clear()
                    thing.clear()
            self.assertEqual(result, kept, function)

    def test_what_is_returned_or_yielded_consists_of_tuples(self):
        for function, specs in CALLS:
            result = run(function, *[turned(spec[0], spec) for spec in specs])
            for item in result if isinstance(result, list) else [result]:
                self.assertFalse(has_list(item), function)

    def test_a_generator_goes_on_with_what_it_was_told_first(self):
        pool = [2, 1, 1]
        for function in (lots.all_lots, lambda told: splits.all_splits(told, 2)):
            told = list(pool)
            whole_row = list(function(pool))
            rows = function(told)
            first = next(rows)
            self.assertEqual([first] + list(rows), whole_row)
            self.assertEqual(told, pool)


if __name__ == "__main__":
    unittest.main()
