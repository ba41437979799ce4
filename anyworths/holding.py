"""All splits that meet a wish, and who holds which coins in them ([2.8])."""

from anyworths.errors import BadCoin, TooMany
from anyworths.pools import check_pool, counted, is_number
from anyworths.searching import MOST_LISTED, layers_in
from anyworths.splits import split_order
from anyworths.wishes import check_wish


def splits_for(pool, wish):
    """All splits that meet the wish, in the order of all_splits ([2.8])."""
    coins = check_pool(pool)
    numbers = check_wish(wish, sum(coins))
    yield from splits_meeting(coins, numbers)


def count_splits_for(pool, wish):
    """How many splits meet the wish ([2.8])."""
    coins = check_pool(pool)
    numbers = check_wish(wish, sum(coins))
    layers_in(coins, numbers)
    return count_from(counted(coins)[::-1], numbers, {})


def held_range(pool, wish, worth):
    """The least and the greatest number of coins of a worth for each person, or None ([2.8])."""
    coins = check_pool(pool)
    numbers = check_wish(wish, sum(coins))
    if not is_number(worth) or worth not in coins:
        raise BadCoin()
    splits = splits_meeting(coins, numbers)
    if len(splits) == 0:
        return None
    held = [[purses[person].count(worth) for purses in splits] for person in range(len(numbers))]
    return tuple([(min(counts), max(counts)) for counts in held])


def splits_meeting(coins, wish):
    """The list of what splits_for yields, for coins and a wish that are checked."""
    # The layers bound how many unlike lacks count_from comes to.
    layers_in(coins, wish)
    kinds = counted(coins)[::-1]
    counts = {}
    if count_from(kinds, wish, counts) > MOST_LISTED:
        raise TooMany(MOST_LISTED)
    return sorted(splits_from(kinds, wish, counts), key=split_order)


def count_from(kinds, lacks, counts):
    """How many splits of counted coins meet these lacks; counts keeps what was found."""
    if len(kinds) == 0:
        return 1
    # The order of the persons does not matter for the number of splits.
    key = (len(kinds), tuple(sorted(lacks)))
    if key not in counts:
        worth, many = kinds[0]
        found = 0
        for shares in shares_of(lacks, worth, many):
            found = found + count_from(kinds[1:], less_shares(lacks, worth, shares), counts)
        counts[key] = found
    return counts[key]


def splits_from(kinds, lacks, counts):
    """The list of the splits that count_from counts."""
    if len(kinds) == 0:
        return [((),) * len(lacks)]
    worth, many = kinds[0]
    found = []
    for shares in shares_of(lacks, worth, many):
        after = less_shares(lacks, worth, shares)
        if count_from(kinds[1:], after, counts) > 0:
            for purses in splits_from(kinds[1:], after, counts):
                found.append(tuple([purse + (worth,) * share for purse, share in zip(purses, shares)]))
    return found


def shares_of(lacks, worth, many):
    """All ways to part so many coins of a worth among those who lack so much, as numbers of coins."""
    if len(lacks) == 0:
        if many == 0:
            yield ()
        return
    others = lacks[1:]
    for share in range(min(many, lacks[0] // worth) + 1):
        left = many - share
        for shares in shares_of(others, worth, left):
            yield (share,) + shares


def less_shares(lacks, worth, shares):
    """The lacks when each person has got so many coins of a worth."""
    return tuple([lack - worth * share for lack, share in zip(lacks, shares)])
