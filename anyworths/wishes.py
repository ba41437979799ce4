"""Wishes: their check, all of them, and the even one ([1.8])."""

from anyworths.errors import BadWish
from anyworths.pools import GREATEST_AMOUNT, MOST_PEOPLE, check_amount, check_people
from anyworths.pools import is_row, is_whole, ways_to_part


def check_wish(wish, total):
    """A wish with this sum as a tuple ([1.8])."""
    numbers = check_amounts(wish)
    if sum(numbers) != total:
        raise BadWish(len(numbers), "sum")
    return numbers


def check_amounts(wish):
    """The numbers of a wish as a tuple, whatever their sum."""
    if not is_row(wish, 1, MOST_PEOPLE):
        raise BadWish(0, "many")
    for place, number in enumerate(wish):
        if not is_whole(number, 0, GREATEST_AMOUNT):
            raise BadWish(place, "number")
    return tuple(wish)


def all_wishes(total, people):
    """All wishes of a total, ascending ([1.8])."""
    check_amount(total)
    check_people(people)
    yield from wishes_in(total, people)


def wishes_in(total, people):
    """What all_wishes yields, for a total and people that are checked."""
    if people == 1:
        yield (total,)
        return
    others = people - 1
    for number in range(total + 1):
        left = total - number
        for numbers in wishes_in(left, others):
            yield (number,) + numbers


def count_wishes(total, people):
    """How many wishes of a total there are ([1.8])."""
    check_amount(total)
    return ways_to_part(total, check_people(people))


def even_wish(total, people):
    """The wish whose numbers differ by at most 1, the greater ones first ([1.8])."""
    check_amount(total)
    return even_parts(total, check_people(people))


def even_parts(total, people):
    """What even_wish returns, for a total and people that are checked."""
    least = total // people
    more = total % people
    return (least + 1,) * more + (least,) * (people - more)
