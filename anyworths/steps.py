"""Steps: coins that are all multiples of a number, and wishes that are ([4.12] to [4.14])."""

from math import gcd

from anyworths.errors import BadPool, BadStep
from anyworths.greedy import greatest_first
from anyworths.pools import GREATEST_COIN, check_amount, check_people, check_pool, is_number
from anyworths.searching import NoSplit, any_split
from anyworths.serving import Unserved, failing_in, serves
from anyworths.wishes import check_amounts, check_wish, wishes_in


def step_of(pool):
    """The greatest number of which all coins are multiples, 0 for no coins ([4.12])."""
    return step_in(check_pool(pool))


def step_in(coins):
    """What step_of returns, for coins that are checked."""
    step = 0
    for coin in coins:
        step = gcd(step, coin)
    return step


def check_positive(step):
    """A whole number from 1."""
    if not is_number(step) or step < 1:
        raise BadStep()
    return step


def check_step(pool, step):
    """A number of which all coins are multiples ([4.12])."""
    coins = check_pool(pool)
    check_positive(step)
    for coin in coins:
        if coin % step != 0:
            raise BadStep()
    return step


def parted_pool(pool, step):
    """The pool with all coins divided by the step ([4.12])."""
    coins = check_pool(pool)
    check_step(coins, step)
    return parted(coins, step)


def parted(numbers, step):
    """The numbers divided by the step."""
    return tuple([number // step for number in numbers])


def multiplied(numbers, times):
    """The numbers so many times."""
    return tuple([number * times for number in numbers])


def times_pool(pool, times):
    """The pool with all coins multiplied ([4.12])."""
    coins = multiplied(check_pool(pool), check_positive(times))
    for place, coin in enumerate(coins):
        if coin > GREATEST_COIN:
            raise BadPool(place, "coin")
    return coins


def serves_steps(pool, people, step):
    """None if every wish on the step has a split, otherwise Unserved ([4.13])."""
    coins = check_pool(pool)
    check_people(people)
    check_step(coins, step)
    unserved = serves(parted(coins, step), people)
    if unserved is None:
        return None
    return Unserved(unserved.place, multiplied(unserved.wish, step))


def step_wishes(total, people, step):
    """All wishes on the step with this total, ascending ([4.13])."""
    check_amount(total)
    check_people(people)
    check_positive(step)
    steps = total // step
    if total % step == 0:
        for wish in wishes_in(steps, people):
            yield multiplied(wish, step)


def serving_step(pool, people):
    """The step of the pool if every wish on it has a split, 0 for no coins, otherwise None ([4.13])."""
    coins = check_pool(pool)
    return step_in(coins) if is_served_step(coins, check_people(people)) else None


def is_served_step(coins, people):
    """Whether every wish on the step of these coins has a split."""
    return len(failing_in(parted(coins, step_in(coins)), people)) == 0


def near_wish(wish, step):
    """The wish rounded to one on the step ([4.14])."""
    numbers = check_amounts(wish)
    if sum(numbers) % check_positive(step) != 0:
        raise BadStep()
    return rounded(numbers, step)


def rounded(numbers, step):
    """What near_wish returns, for a wish and a step that are checked."""
    losses = [number % step for number in numbers]
    # The greatest losses come first, and the lesser person of those who lost as much.
    persons = sorted(range(len(numbers)), key=lambda person: (-losses[person], person))
    risen = persons[:sum(losses) // step]
    return tuple([number - number % step + (step if person in risen else 0) for person, number in enumerate(numbers)])


def near_split(pool, wish):
    """A split with the worths of the wish nearest to this one that is on the pool's step, or None ([4.14])."""
    coins = check_pool(pool)
    numbers = check_wish(wish, sum(coins))
    if len(coins) == 0:
        return ((),) * len(numbers)
    near = rounded(numbers, step_in(coins))
    # Coins that serve their step never stick, and need no search that might have too many entries.
    if is_served_step(coins, len(numbers)):
        return greatest_first(coins, near)
    split = any_split(coins, near)
    return None if isinstance(split, NoSplit) else split
