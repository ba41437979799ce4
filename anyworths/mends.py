"""Choices of edits that let a pool meet its goals ([10.5] to [10.8])."""

from anyworths.edits import edited_all, edits_up_to
from anyworths.goals import check_goals, missed_in, missed_word
from anyworths.lots import lots_in
from anyworths.pools import are_numbers, check_pool

MOST_OFFERED = 5


class Mends:
    """All least choices, and the choices without one of them within, with the goals that they miss."""

    def __init__(self, least, failing):
        self.least = least
        self.failing = failing

    def __eq__(self, other):
        return isinstance(other, Mends) and self.least == other.least and self.failing == other.failing

    @property
    def needed(self):
        """The places that are in every least choice, ascending ([10.6])."""
        if len(self.least) == 0:
            return ()
        return tuple([place for place in self.least[0] if all([place in choice for choice in self.least])])


class Spoiler:
    """A least choice, a place that spoils it, and the goal that is missed then."""

    def __init__(self, choice, added, missed):
        self.choice = choice
        self.added = added
        self.missed = missed

    def __eq__(self, other):
        return (isinstance(other, Spoiler) and self.choice == other.choice and self.added == other.added
                and self.missed == other.missed)


def check_offer(offer):
    """An offer as a tuple of edits ([10.6])."""
    return edits_up_to(offer, 1, MOST_OFFERED)


def choices_of(offer):
    """The list of all choices of an offer, in their order."""
    places = tuple(range(len(offer)))
    # Places are unlike, and choices are ordered like lots.
    return list(lots_in(places))


def missed_behind(coins, offer, choice, goals):
    """What missed_goal returns for the pool behind a choice."""
    return missed_in(pool_behind(coins, offer, choice), goals)


def pool_behind(coins, offer, choice):
    """The pool behind a choice."""
    return edited_all(coins, [offer[place] for place in choice])


def has_within(choice, choices):
    """Whether one of the choices is a part of a choice or the choice itself."""
    return any([is_part(one, choice) for one in choices])


def is_part(one, other):
    """Whether all places of the one choice are in the other."""
    return all([place in other for place in one])


def find_mends(pool, offer, goals):
    """All least choices, and why others are not good ([10.6])."""
    coins = check_pool(pool)
    edits = check_offer(offer)
    return mends_in(coins, edits, check_goals(goals))


def mends_in(coins, offer, goals):
    """What find_mends returns, for arguments that are checked."""
    least = []
    failing = []
    for choice in choices_of(offer):
        if not has_within(choice, least):
            missed = missed_behind(coins, offer, choice, goals)
            if missed is None:
                least.append(choice)
            else:
                failing.append((choice, missed))
    return Mends(tuple(least), tuple(failing))


def mends_fault(pool, offer, goals, mends):
    """None if a Mends is right, otherwise the first word that applies ([10.7])."""
    coins = check_pool(pool)
    edits = check_offer(offer)
    told = check_goals(goals)
    choices = choices_of(edits)
    if not are_mends(mends, choices):
        return "mends"
    failing = [choice for choice, _ in mends.failing]
    word = choices_word(choices, mends.least, failing)
    if word is not None:
        return word
    if not all([missed is None for missed in all_missed(coins, edits, mends.least, told)]):
        return "good"
    # What missed_word asks is one goal; the first one that is missed is asked for TooMany alone ([10.6]).
    all_missed(coins, edits, failing, told)
    for choice, missed in mends.failing:
        if missed_word(pool_behind(coins, edits, choice), told, missed) is not None:
            return "missed"
    return None


def all_missed(coins, offer, choices, goals):
    """What missed_goal returns behind each of the choices."""
    return [missed_behind(coins, offer, choice, goals) for choice in choices]


def are_mends(thing, choices):
    """Whether a thing is a Mends with choices in their order, none twice."""
    if not isinstance(thing, Mends) or not isinstance(thing.failing, tuple):
        return False
    if not all([isinstance(row, tuple) and len(row) == 2 for row in thing.failing]):
        return False
    return are_in_order(thing.least, choices) and are_in_order(tuple([row[0] for row in thing.failing]), choices)


def are_in_order(thing, choices):
    """Whether a thing is a tuple of some of the choices in their order, none twice."""
    if not isinstance(thing, tuple):
        return False
    if not all([isinstance(choice, tuple) and are_numbers(choice) for choice in thing]):
        return False
    return [choice for choice in choices if choice in thing] == list(thing)


def choices_word(choices, least, failing):
    """What is wrong with the least choices and those that fail, whatever the goals are, or None."""
    if not all([one == other or not is_part(one, other) for one in least for other in least]):
        return "within"
    if any([has_within(choice, least) for choice in failing]):
        return "within"
    if not all([has_within(choice, least) or choice in failing for choice in choices]):
        return "lacking"
    return None


def find_spoilers(pool, offer, goals):
    """What spoils the least choices when it is added ([10.8])."""
    coins = check_pool(pool)
    edits = check_offer(offer)
    told = check_goals(goals)
    spoilers = []
    for choice in mends_in(coins, edits, told).least:
        for added in range(len(edits)):
            if added not in choice:
                missed = missed_behind(coins, edits, tuple(sorted(choice + (added,))), told)
                if missed is not None:
                    spoilers.append(Spoiler(choice, added, missed))
    return tuple(spoilers)
