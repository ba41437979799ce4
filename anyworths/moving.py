"""Coins that are moved from purse to purse ([9.1], [9.2])."""

from anyworths.debts import is_couple
from anyworths.errors import BadMove, BadSplits
from anyworths.lots import beyond
from anyworths.payments import swapped
from anyworths.pools import are_numbers, is_row
from anyworths.splits import check_purses, coins_of

MOST_MOVES = 100


def fewest_moved(split, other):
    """How many coins must move to make the other split ([9.1])."""
    purses = check_purses(split)
    return moved_coins(purses, check_likes(purses, other))


def check_likes(purses, other):
    """Another split of the same coins among as many people."""
    wanted = check_purses(other)
    if len(wanted) != len(purses):
        raise BadSplits("people")
    if coins_of(wanted) != coins_of(purses):
        raise BadSplits("pool")
    return wanted


def moved_coins(purses, wanted):
    """What fewest_moved returns, for splits that are checked."""
    return sum([len(beyond(purse, coins)) for purse, coins in zip(purses, wanted)])


def moves_between(split, other):
    """The fewest moves that lead from one split to the other ([9.2])."""
    purses = check_purses(split)
    wanted = check_likes(purses, other)
    moves = []
    for (coin, giver), (_, taker) in zip(unlike_coins(purses, wanted), unlike_coins(wanted, purses)):
        moves.append((coin, giver, taker))
    return tuple(moves)


def unlike_coins(purses, wanted):
    """A couple (coin, person) for each coin that a person has beyond those wanted, ascending."""
    return sorted([
        (coin, person) for person in range(len(purses)) for coin in beyond(purses[person], wanted[person])
    ])


def after_moves(split, moves):
    """The split behind moves that are made one after another ([9.2])."""
    purses = check_purses(split)
    if not is_row(moves, 0, MOST_MOVES):
        raise BadMove(0, "many")
    for place, move in enumerate(moves):
        coin, giver, taker = check_move(purses, move, place)
        purses = swapped(purses, (giver, taker, (coin,), ()))
    return purses


def check_move(purses, move, place):
    """A move of a coin that can be made; its errors tell this place."""
    if not is_row(move, 3, 3) or not are_numbers(move):
        raise BadMove(place, "move")
    coin, giver, taker = move
    if not is_couple(len(purses), giver, taker):
        raise BadMove(place, "persons")
    if coin not in purses[giver]:
        raise BadMove(place, "coin")
    return move
