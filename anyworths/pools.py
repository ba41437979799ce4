"""Pools, people, persons and amounts, and what a pool is together ([1.1])."""

from anyworths.errors import BadAmount, BadPeople, BadPerson, BadPool

MOST_COINS = 12
MOST_PEOPLE = 5
GREATEST_COIN = 1000000000
GREATEST_AMOUNT = 12000000000


def is_number(thing):
    """Whether a thing is a whole number."""
    # To Python True and False are ints, but they are no number anywhere ([0.4]).
    return isinstance(thing, int) and not isinstance(thing, bool)


def is_whole(thing, low, high):
    """Whether a thing is a whole number from low to high."""
    return is_number(thing) and low <= thing <= high


def are_numbers(things):
    """Whether all things of a sequence are whole numbers."""
    return all([is_number(thing) for thing in things])


def is_row(thing, least, most):
    """Whether a thing is a sequence of at least and at most so many items."""
    return isinstance(thing, (list, tuple)) and least <= len(thing) <= most


def check_pool(coins):
    """The ascending coins of a pool ([1.1])."""
    if not is_row(coins, 0, MOST_COINS):
        raise BadPool(0, "many")
    for place, coin in enumerate(coins):
        if not is_whole(coin, 1, GREATEST_COIN):
            raise BadPool(place, "coin")
    return tuple(sorted(coins))


def check_people(people, low=1):
    """A number of people, at least low ([1.1])."""
    if not is_whole(people, low, MOST_PEOPLE):
        raise BadPeople()
    return people


def check_person(people, person):
    """One of so many people ([1.1])."""
    if not is_whole(person, 0, people - 1):
        raise BadPerson()
    return person


def check_amount(amount, low=0):
    """An amount, at least low ([1.1])."""
    if not is_whole(amount, low, GREATEST_AMOUNT):
        raise BadAmount()
    return amount


def total_of(pool):
    """The sum of a pool's coins ([1.1])."""
    return sum(check_pool(pool))


def counted_coins(pool):
    """A couple (worth, how many coins of it) for each worth, ascending ([1.1])."""
    return counted(check_pool(pool))


def counted(coins):
    """What counted_coins returns, for coins that are checked."""
    return tuple([(worth, coins.count(worth)) for worth in sorted(set(coins))])


def sums_ahead(coins):
    """The sums S_0 to S_n of the first coins ([0.2])."""
    sums = [0]
    for coin in coins:
        sums.append(sums[-1] + coin)
    return sums


def up(total, people):
    """A total divided by the people, rounded up ([0.2])."""
    return (total + people - 1) // people


def ways_to_part(many, people):
    """How many ways there are to part so many alike things among the people."""
    ways = 1
    for others in range(1, people):
        # The product so far is a binomial coefficient, so nothing is left over.
        ways = ways * (many + others) // others
    return ways
