"""Debts that drain a person with a coin above 1 of ones ([6.12])."""

from anyworths.errors import BadPeople, BadPerson
from anyworths.pools import is_whole
from anyworths.splits import check_purses

LEAST_PEOPLE_TO_DRAIN = 3


def draining_debts(split, holder, emptied, helper):
    """The row of debts that drains the holder, or None if the holder has no coin above 1 ([6.12])."""
    purses = check_purses(split)
    if len(purses) < LEAST_PEOPLE_TO_DRAIN:
        raise BadPeople()
    persons = [holder, emptied, helper]
    if not all([is_whole(person, 0, len(purses) - 1) for person in persons]) or len(set(persons)) < len(persons):
        raise BadPerson()
    return drain_by(purses, holder, emptied, helper)


def drain_by(purses, holder, emptied, helper):
    """What draining_debts returns, for arguments that are checked."""
    if max(purses[holder], default=1) == 1:
        return None
    row = []
    if len(purses[emptied]) > 0:
        row.append((emptied, helper, sum(purses[emptied])))
    for _ in range(purses[holder].count(1)):
        row.append((holder, emptied, 1))
        row.append((emptied, helper, 1))
    row.append((holder, emptied, 1))
    return tuple(row)


def drain_bound(split):
    """One less than the length of the shortest row of draining_debts, or None if there is none ([6.12])."""
    purses = check_purses(split)
    people = range(len(purses))
    trios = [(one, two, three) for one in people for two in people for three in people]
    rows = [drain_by(purses, one, two, three) for one, two, three in trios if len(set([one, two, three])) == 3]
    return min([len(row) - 1 for row in rows if row is not None], default=None)
