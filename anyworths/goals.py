"""Goals of a pool ([10.3], [10.4])."""

from anyworths.bands import check_band
from anyworths.debts import check_most
from anyworths.edits import has_form
from anyworths.errors import BadAmount, BadBand, BadCount, BadGoal, BadLost, BadPeople, BadPool
from anyworths.finer import is_finer
from anyworths.lasting import lasting_splits
from anyworths.leastpools import check_count
from anyworths.leaving import LEAST_PEOPLE_TO_LEAVE, Stays, leaves, stays_fault
from anyworths.losses import Fallen, check_lost, fallen_fault, serves_after
from anyworths.pools import MOST_COINS, check_amount, check_people, check_pool, is_number, is_row, is_whole
from anyworths.serving import Unserved, serves, unserved_fault

MOST_GOALS = 6
# The words of goals, each with the length of its form.
FORMS = (
    ("serves", 2), ("serves after", 3), ("at most", 2), ("total", 3), ("leaves", 3), ("finer", 2), ("lasting", 4),
)


class Missed:
    """The place of a goal that is not met, and why."""

    def __init__(self, place, why):
        self.place = place
        self.why = why

    def __eq__(self, other):
        return isinstance(other, Missed) and self.place == other.place and self.why == other.why


def check_goals(goals):
    """Goals as a tuple of tuples ([10.3])."""
    if not is_row(goals, 1, MOST_GOALS):
        raise BadGoal(0)
    return tuple([check_goal(goal, place) for place, goal in enumerate(goals)])


def check_goal(goal, place):
    """A goal as a tuple; its error tells this place."""
    if not has_form(goal, FORMS):
        raise BadGoal(place)
    try:
        return (goal[0],) + parts_of(goal)
    except (BadPeople, BadLost, BadCount, BadAmount, BadPool, BadBand):
        raise BadGoal(place) from None


def parts_of(goal):
    """What stands behind the word of a goal, as its checks return it."""
    word = goal[0]
    if word == "serves":
        return (check_people(goal[1]),)
    if word == "serves after":
        return check_people(goal[1]), check_lost(goal[2])
    if word == "at most":
        return (check_count(goal[1], MOST_COINS),)
    if word == "total":
        high = check_amount(goal[2])
        low = check_amount(goal[1])
        if low > high:
            raise BadAmount()
        return low, high
    if word == "leaves":
        return check_people(goal[1], LEAST_PEOPLE_TO_LEAVE), check_amount(goal[2])
    if word == "finer":
        return (check_pool(goal[1]),)
    band = None if goal[2] is None else check_band(goal[2])
    return check_people(goal[1]), band, check_most(goal[3])


def missed_goal(pool, goals):
    """The first goal that a pool does not meet, or None ([10.4])."""
    coins = check_pool(pool)
    return missed_in(coins, check_goals(goals))


def missed_in(coins, goals):
    """What missed_goal returns, for arguments that are checked."""
    for place, goal in enumerate(goals):
        is_met, why = judged_goal(coins, goal)
        if not is_met:
            return Missed(place, why)
    return None


def judged_goal(coins, goal):
    """Whether the coins meet a goal, and why they do not."""
    word = goal[0]
    if word == "serves":
        unserved = serves(coins, goal[1])
        return unserved is None, unserved
    if word == "serves after":
        fallen = serves_after(coins, goal[1], goal[2])
        return fallen is None, fallen
    if word == "at most":
        return len(coins) <= goal[1], len(coins)
    if word == "total":
        return goal[1] <= sum(coins) <= goal[2], sum(coins)
    if word == "leaves":
        return judged_leaving(coins, goal[1], goal[2])
    if word == "finer":
        return is_finer(coins, goal[1]), None
    return len(lasting_splits(coins, goal[1], band=goal[2], most=goal[3])) > 0, None


def judged_leaving(coins, people, worth):
    """Whether a person of this worth can leave, and why not."""
    if worth > sum(coins):
        return False, None
    told = leaves(coins, people, worth)
    return not isinstance(told, Stays), told


def missed_fault(pool, goals, missed):
    """None if a goal is missed as told, otherwise the first word that applies ([10.4])."""
    coins = check_pool(pool)
    return missed_word(coins, check_goals(goals), missed)


def missed_word(coins, goals, missed):
    """What missed_fault returns, for arguments that are checked."""
    if not isinstance(missed, Missed):
        return "missed"
    if not is_whole(missed.place, 0, len(goals) - 1):
        return "place"
    goal = goals[missed.place]
    is_met, why = judged_goal(coins, goal)
    if is_met:
        return "met"
    return None if is_why(coins, goal, missed.why, why) else "why"


def is_why(coins, goal, thing, why):
    """Whether a thing tells why a goal is missed, which is also missed because of what is told last."""
    if isinstance(why, Unserved):
        return isinstance(thing, Unserved) and unserved_fault(coins, goal[1], thing) is None
    if isinstance(why, Fallen):
        return isinstance(thing, Fallen) and fallen_fault(coins, goal[1], goal[2], thing) is None
    if isinstance(why, Stays):
        return isinstance(thing, Stays) and stays_fault(coins, goal[1], goal[2], thing) is None
    if why is None:
        return thing is None
    return is_number(thing) and thing == why
