"""Pools of the few kinds of coins that a mint has ([3.13] to [3.18])."""

from anyworths.errors import BadKinds
from anyworths.leastpools import GREATEST_SUM, LEAST_PEOPLE, check_count, check_total, is_serving
from anyworths.leastpools import room_at
from anyworths.pools import GREATEST_COIN, MOST_COINS, check_people, is_number, is_row, is_whole

MOST_KINDS = 6
MOST_MINTED = 6
GREATEST_MINTED = 200


class Minted:
    """A pool of the fewest coins of a mint's kinds, and the layers ahead of it."""

    def __init__(self, pool, layers):
        self.pool = pool
        self.layers = layers

    def __eq__(self, other):
        return isinstance(other, Minted) and self.pool == other.pool and self.layers == other.layers


class NoMint:
    """The layers that show that no pool of a mint's kinds has a total."""

    def __init__(self, layers):
        self.layers = layers

    def __eq__(self, other):
        return isinstance(other, NoMint) and self.layers == other.layers


def check_kinds(kinds):
    """The ascending kinds of a mint ([3.13])."""
    if not is_row(kinds, 1, MOST_KINDS):
        raise BadKinds(0, "many")
    for place, kind in enumerate(kinds):
        if not is_whole(kind, 1, GREATEST_COIN):
            raise BadKinds(place, "kind")
        if kind in kinds[:place]:
            raise BadKinds(place, "twice")
    return tuple(sorted(kinds))


def kinds_let(kinds, total, people):
    """The kinds that are at most the room of a total, ascending ([3.14])."""
    minted = check_kinds(kinds)
    check_total(total, GREATEST_SUM)
    check_people(people, LEAST_PEOPLE)
    return kinds_at(minted, total, people)


def kinds_at(kinds, total, people):
    """What kinds_let returns, for things that are checked."""
    return tuple([kind for kind in kinds if kind <= room_at(total, people)])


def greatest_from(kinds, count, people):
    """The greatest total of a serving pool of so many coins of these kinds, or None ([3.14])."""
    minted = check_kinds(kinds)
    check_count(count, MOST_COINS)
    check_people(people, LEAST_PEOPLE)
    if count > 0 and minted[0] > 1:
        return None
    total = 0
    for _ in range(count):
        total = total + kinds_at(minted, total, people)[-1]
    return total


def all_minted(kinds, count, people):
    """All serving pools of exactly so many coins of these kinds, ascending ([3.15])."""
    minted = check_kinds(kinds)
    check_count(count, MOST_MINTED)
    check_people(people, LEAST_PEOPLE)
    yield from minted_behind(minted, 0, count, people)


def minted_behind(kinds, ahead, count, people):
    """The ascending rows of count coins of these kinds that may stand behind coins with this sum."""
    if count == 0:
        yield ()
        return
    fewer = count - 1
    for kind in kinds_at(kinds, ahead, people):
        behind = ahead + kind
        later = kinds[kinds.index(kind):]
        for coins in minted_behind(later, behind, fewer, people):
            yield (kind,) + coins


def layers_to(kinds, total, people):
    """The layers from 0 to the first that has the total or is empty, or to that of all coins ([3.16])."""
    layers = [(0,)]
    while len(layers[-1]) > 0 and total not in layers[-1] and len(layers) <= MOST_COINS:
        layers.append(next_totals(kinds, layers[-1], total, people))
    return tuple(layers)


def next_totals(kinds, layer, total, people):
    """The layer behind a layer ([3.16])."""
    sums = [ahead + kind for ahead in layer for kind in kinds_at(kinds, ahead, people)]
    return tuple(sorted(set([found for found in sums if found <= total])))


def fewest_from(kinds, total, people):
    """Minted with a pool of the fewest coins, or NoMint ([3.17])."""
    minted = check_kinds(kinds)
    check_total(total, GREATEST_MINTED)
    check_people(people, LEAST_PEOPLE)
    layers = layers_to(minted, total, people)
    if total not in layers[-1]:
        return NoMint(layers)
    return Minted(pool_through(minted, layers[:-1], total, people), layers[:-1])


def pool_through(kinds, layers, total, people):
    """A serving pool that comes to the total by one coin behind each layer."""
    coins = []
    left = total
    for layer in layers[::-1]:
        fitting = [kind for kind in kinds if left - kind in layer and kind <= room_at(left - kind, people)]
        coins.append(fitting[0])
        left = left - fitting[0]
    return tuple(sorted(coins))


def mint_fault(kinds, total, people, answer):
    """None if a Minted or a NoMint is right, otherwise the first word that applies ([3.18])."""
    minted = check_kinds(kinds)
    check_total(total, GREATEST_MINTED)
    check_people(people, LEAST_PEOPLE)
    layers = layers_to(minted, total, people)
    if isinstance(answer, Minted):
        if not is_minted(minted, total, people, answer.pool) or len(answer.pool) != len(layers) - 1:
            return "pool"
        layers = layers[:-1]
    elif total in layers[-1]:
        return "pool"
    return None if are_totals(answer.layers, layers) else "layers"


def is_minted(kinds, total, people, pool):
    """Whether a thing is a serving pool of these kinds with this total."""
    if not is_row(pool, 0, MOST_COINS):
        return False
    if not all([is_number(coin) and coin in kinds for coin in pool]):
        return False
    return sum(pool) == total and is_serving(sorted(pool), people)


def are_totals(told, layers):
    """Whether a thing is just these layers, as sequences."""
    if not is_row(told, len(layers), len(layers)):
        return False
    return all([is_layer(row, layer) for row, layer in zip(told, layers)])


def is_layer(row, layer):
    """Whether a thing is just this layer, as a sequence of whole numbers."""
    if not is_row(row, len(layer), len(layer)):
        return False
    return all([is_number(one) and one == other for one, other in zip(row, layer)])
