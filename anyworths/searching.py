"""Layers of lacks, a split for any wish, and the wishes that are given ([2.6], [2.7])."""

from anyworths.errors import TooMany
from anyworths.greedy import Stuck, greatest_first, hand_out, lacks_after
from anyworths.pools import check_people, check_pool, is_number, is_row
from anyworths.wishes import check_wish, wishes_in

MOST_LISTED = 400


class NoSplit:
    """The layers that show that no split meets a wish."""

    def __init__(self, layers):
        self.layers = layers

    def __eq__(self, other):
        return isinstance(other, NoSplit) and self.layers == other.layers


def layers_of(pool, wish):
    """The layers of a pool and a wish ([2.6])."""
    coins = check_pool(pool)
    return layers_in(coins, check_wish(wish, sum(coins)))


def layers_in(coins, wish):
    """What layers_of returns, for coins and a wish that are checked."""
    layers = [(tuple(sorted(wish)),)]
    for coin in coins[::-1]:
        if len(layers[-1]) > 0:
            layers.append(listed([lacks for entry in layers[-1] for lacks in followers(entry, coin)]))
    return tuple(layers)


def listed(entries):
    """The entries in ascending order, each once, if they are not too many."""
    unlike = sorted(set(entries))
    if len(unlike) > MOST_LISTED:
        raise TooMany(MOST_LISTED)
    return tuple(unlike)


def followers(entry, coin):
    """The ascending tuples that come from an entry by taking the coin from one number."""
    able = [person for person in range(len(entry)) if entry[person] >= coin]
    return [tuple(sorted(lacks_after(entry, person, coin))) for person in able]


def any_split(pool, wish):
    """A split that meets the wish, or NoSplit ([2.6])."""
    coins = check_pool(pool)
    layers = layers_in(coins, check_wish(wish, sum(coins)))
    if len(layers[-1]) == 0:
        return NoSplit(layers)
    row = row_through(coins, layers)

    def choose(coin, lacks):
        able = [person for person in range(len(lacks)) if lacks[person] >= coin]
        led = [person for person in able if tuple(sorted(lacks_after(lacks, person, coin))) in row]
        return led[0]

    return hand_out(coins, wish, choose)


def row_through(coins, layers):
    """An entry of each layer, from the last on, so that each follows from the one of the layer ahead."""
    row = [layers[-1][0]]
    for coin, layer in zip(coins, layers[-2::-1]):
        row.append([entry for entry in layer if row[-1] in followers(entry, coin)][0])
    return row


def layers_fault(pool, wish, layers):
    """None if the layers show that no split meets the wish, otherwise the first word that applies ([2.6])."""
    coins = check_pool(pool)
    numbers = check_wish(wish, sum(coins))
    if not are_layers(layers, len(numbers)):
        return "form"
    if len(layers) > len(coins) + 1:
        return "many"
    if tuple(sorted(numbers)) not in layers[0]:
        return "first"
    for at in range(len(layers) - 1):
        if not leads_on(layers[at], layers[at + 1], coins[len(coins) - 1 - at]):
            return "next"
    if len(layers[-1]) > 0:
        return "last"
    return None


def are_layers(layers, people):
    """Whether a thing is a sequence of at least one sequence of lacks."""
    if not isinstance(layers, (list, tuple)) or len(layers) == 0:
        return False
    if not all([isinstance(layer, (list, tuple)) for layer in layers]):
        return False
    return all([are_lacks(entry, people) for layer in layers for entry in layer])


def are_lacks(entry, people):
    """Whether a thing is an ascending tuple of so many whole numbers of at least 0."""
    if not isinstance(entry, tuple) or not is_row(entry, people, people):
        return False
    if not all([is_number(lack) and lack >= 0 for lack in entry]):
        return False
    return list(entry) == sorted(entry)


def leads_on(layer, following, coin):
    """Whether all that follows from a layer's entries by this coin is in the following layer."""
    known = {entry: True for entry in following}
    return all([lacks in known for entry in layer for lacks in followers(entry, coin)])


def given_wishes(pool, people):
    """All given wishes, ascending ([2.7])."""
    wishes = []
    for worths in given_worths(pool, people):
        wishes.extend(list(orders_of(worths)))
    yield from sorted(wishes)


def orders_of(numbers):
    """All unlike orders of ascending numbers."""
    if len(numbers) == 0:
        yield ()
    for place in range(len(numbers)):
        # An alike number ahead has begun these orders already.
        if place == 0 or numbers[place] != numbers[place - 1]:
            others = numbers[:place] + numbers[place + 1:]
            for order in orders_of(others):
                yield (numbers[place],) + order


def given_worths(pool, people):
    """The worths of all splits, each in ascending order, ascending ([2.7])."""
    coins = check_pool(pool)
    worths = ((0,) * check_people(people),)
    for coin in coins[::-1]:
        worths = listed([lacks for entry in worths for lacks in leaders(entry, coin)])
    return worths


def leaders(entry, coin):
    """The ascending tuples that come from an entry by adding the coin to one number."""
    return [tuple(sorted(lacks_after(entry, person, -coin))) for person in range(len(entry))]


def wishes_given(pool, people):
    """How many wishes are given ([2.7])."""
    return len(list(given_wishes(pool, people)))


def first_missing(pool, people):
    """The first wish that is not given, or None ([2.7])."""
    given = {worths: True for worths in given_worths(pool, people)}
    total = sum(check_pool(pool))
    # This ends soon: at most all orders of the given worths come ahead of the first that is missing.
    for wish in wishes_in(total, people):
        if tuple(sorted(wish)) not in given:
            return wish
    return None


def misled_wish(pool, people):
    """The first given wish at which greatest_first sticks, or None ([2.7])."""
    # Who of those who lack most gets a coin does not matter for the lacks in ascending order,
    # so all orders of a wish stick if one does, and the ascending one is the first of them.
    for wish in given_worths(pool, people):
        if isinstance(greatest_first(pool, wish), Stuck):
            return wish
    return None
