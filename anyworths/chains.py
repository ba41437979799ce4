"""Chains of persons by whom a debt is paid ([5.13])."""

from anyworths.debtrows import Played, play_row, played_fault
from anyworths.debts import check_debt
from anyworths.pools import are_numbers
from anyworths.splits import check_purses


class Chain:
    """The persons of a chain, and a play of its debts."""

    def __init__(self, persons, splits):
        self.persons = persons
        self.splits = splits

    def __eq__(self, other):
        return isinstance(other, Chain) and self.persons == other.persons and self.splits == other.splits


def chain_of(split, debt):
    """The first chain of a debt whose debts have a play, or None ([5.13])."""
    purses = check_purses(split)
    told = check_debt(purses, debt)
    for persons in chains_in(len(purses), told):
        played = play_row(purses, debts_along(persons, told))
        if isinstance(played, Played):
            return Chain(persons, played.splits)
    return None


def chains_in(people, debt):
    """All chains of a debt among so many people: the fewest persons first, then ascending."""
    debtor, creditor, _ = debt
    others = [person for person in range(people) if person not in (debtor, creditor)]
    return [
        (debtor,) + between + (creditor,) for many in range(len(others) + 1) for between in unlike_rows(others, many)
    ]


def unlike_rows(persons, many):
    """All rows of so many unlike ones of the persons, ascending."""
    if many == 0:
        return [()]
    rows = []
    for person in persons:
        others = [other for other in persons if other != person]
        rows.extend([(person,) + row for row in unlike_rows(others, many - 1)])
    return rows


def debts_along(persons, debt):
    """The row of debts of a chain."""
    return tuple([(persons[at], persons[at + 1], debt[2]) for at in range(len(persons) - 1)])


def chain_fault(split, debt, chain):
    """None if a Chain is a right result of chain_of, otherwise the first word that applies ([5.13])."""
    purses = check_purses(split)
    told = check_debt(purses, debt)
    chains = chains_in(len(purses), told)
    if not is_one_of(chain.persons, chains):
        return "persons"
    if played_fault(purses, debts_along(chain.persons, told), Played(chain.splits)) is not None:
        return "splits"
    for persons in chains[:chains.index(chain.persons)]:
        if isinstance(play_row(purses, debts_along(persons, told)), Played):
            return "first"
    return None


def is_one_of(thing, chains):
    """Whether a thing is one of these tuples, with no True in the place of 1."""
    return isinstance(thing, tuple) and are_numbers(thing) and thing in chains
