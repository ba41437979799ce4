"""People who leave with their own purse ([8.7])."""

from anyworths.errors import BadPeople
from anyworths.leaving import LEAST_PEOPLE_TO_LEAVE
from anyworths.pieces import led_to, piece_in
from anyworths.pools import check_person
from anyworths.serving import failing_in
from anyworths.splits import check_purses, coins_of


class Gone:
    """The exchanges ahead, the lot with which a person goes, and the other purses."""

    def __init__(self, exchanges, lot, purses):
        self.exchanges = exchanges
        self.lot = lot
        self.purses = purses

    def __eq__(self, other):
        return (isinstance(other, Gone) and self.exchanges == other.exchanges and self.lot == other.lot
                and self.purses == other.purses)


class Kept:
    """A piece from none of whose splits a person may go."""

    def __init__(self, piece):
        self.piece = piece

    def __eq__(self, other):
        return isinstance(other, Kept) and self.piece == other.piece


def may_go(split, person):
    """Whether the coins of the other purses serve the others ([8.7])."""
    purses = check_purses(split)
    return is_let_go(purses, check_leaver(purses, person))


def check_leaver(purses, person):
    """A person who is not alone."""
    if len(purses) < LEAST_PEOPLE_TO_LEAVE:
        raise BadPeople()
    return check_person(len(purses), person)


def others_of(purses, person):
    """The purses of the others, in their order."""
    return purses[:person] + purses[person + 1:]


def is_let_go(purses, person):
    """What may_go returns, for arguments that are checked."""
    others = others_of(purses, person)
    return len(failing_in(coins_of(others), len(others))) == 0


def goes_with(split, person):
    """The fewest exchanges behind which a person may go, or Kept ([8.7])."""
    purses = check_purses(split)
    check_leaver(purses, person)
    piece = piece_in(purses)
    goals = {there: True for there in piece if is_let_go(there, person)}
    if len(goals) == 0:
        return Kept(piece)
    exchanges, there = led_to(purses, goals)
    return Gone(exchanges, there[person], others_of(there, person))
