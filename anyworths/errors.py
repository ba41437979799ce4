"""All errors of the package, each directly under PurseError ([0.6])."""


class PurseError(ValueError):
    """What all errors of the package stand under."""


class BadPool(PurseError):
    """No pool of coins ([1.1])."""

    def __init__(self, place, what):
        self.place = place
        self.what = what


class BadPeople(PurseError):
    """No number of people ([1.1])."""


class BadPerson(PurseError):
    """No person ([1.1])."""


class BadAmount(PurseError):
    """No amount ([1.1])."""


class BadLot(PurseError):
    """A lot that is not within its pool ([1.3])."""


class BadSplit(PurseError):
    """No split ([1.4], [1.5])."""

    def __init__(self, place, what):
        self.place = place
        self.what = what


class BadNumber(PurseError):
    """No number of a split ([1.6])."""


class BadOrder(PurseError):
    """No order of the persons ([1.7])."""


class BadWish(PurseError):
    """No wish ([1.8])."""

    def __init__(self, place, what):
        self.place = place
        self.what = what


class BadText(PurseError):
    """A text that cannot be read ([1.9])."""

    def __init__(self, place, what):
        self.place = place
        self.what = what


class BadChoice(PurseError):
    """A function that was passed in chose a wrong thing ([2.5])."""

    def __init__(self, place):
        self.place = place


class BadRation(PurseError):
    """No ration ([2.9])."""

    def __init__(self, place, what):
        self.place = place
        self.what = what


class BadMost(PurseError):
    """No sum of a pool's rations ([2.10])."""


class BadCount(PurseError):
    """No number of coins from 0 to most ([3.19])."""

    def __init__(self, most):
        self.most = most


class BadTotal(PurseError):
    """No total from 0 to most ([3.19])."""

    def __init__(self, most):
        self.most = most


class BadUnlike(PurseError):
    """No number of unlike worths ([3.19])."""


class BadCoin(PurseError):
    """No coin ([2.8], [3.19])."""


class BadKinds(PurseError):
    """No kinds of a mint ([3.13])."""

    def __init__(self, place, what):
        self.place = place
        self.what = what


class BadLost(PurseError):
    """No number of lost coins ([4.1])."""


class BadParts(PurseError):
    """No parts of a coin ([4.11])."""


class BadHeaps(PurseError):
    """No heaps of a pool ([4.10])."""

    def __init__(self, what):
        self.what = what


class BadStep(PurseError):
    """No step ([4.12])."""


class BadDebt(PurseError):
    """No debt of a split ([5.1])."""

    def __init__(self, what):
        self.what = what


class BadWay(PurseError):
    """No way of paying a debt ([5.4])."""

    def __init__(self, what):
        self.what = what


class BadPayment(PurseError):
    """No payment of a debt ([5.4])."""

    def __init__(self, what):
        self.what = what


class BadDebts(PurseError):
    """No row of debts ([1.12], [5.8])."""

    def __init__(self, place, what):
        self.place = place
        self.what = what


class BadTurns(PurseError):
    """No number of turns ([5.12])."""


class BadBand(PurseError):
    """No band, or a thing that does not fit it ([6.1])."""

    def __init__(self, what):
        self.what = what


class BadBook(PurseError):
    """A thing that a book does not have ([6.6])."""

    def __init__(self, what):
        self.what = what


class TooMany(PurseError):
    """More things than may be gone through ([0.7])."""

    def __init__(self, most):
        self.most = most


class BadExchange(PurseError):
    """No exchange of a split ([7.2])."""

    def __init__(self, place, what):
        self.place = place
        self.what = what


class BadLots(PurseError):
    """No lots of newcomers ([8.8])."""

    def __init__(self, place):
        self.place = place


class BadSplits(PurseError):
    """Two splits that do not fit together ([9.1])."""

    def __init__(self, what):
        self.what = what


class BadMove(PurseError):
    """No move of a coin ([9.2])."""

    def __init__(self, place, what):
        self.place = place
        self.what = what


class BadSeen(PurseError):
    """No payment that was seen ([9.6])."""

    def __init__(self, place, what):
        self.place = place
        self.what = what


class CannotSee(PurseError):
    """A payment that cannot have been seen ([9.7])."""

    def __init__(self, place):
        self.place = place


class CannotGuess(PurseError):
    """No split fits what was seen ([9.8])."""


class CannotAnswer(PurseError):
    """An answer that is neither True nor False ([9.10])."""

    def __init__(self, place):
        self.place = place


class BadEdit(PurseError):
    """No edit of a pool ([10.1])."""

    def __init__(self, place, what):
        self.place = place
        self.what = what


class BadGoal(PurseError):
    """No goal of a pool ([10.3])."""

    def __init__(self, place):
        self.place = place


class CannotPay(PurseError):
    """A debt of a town that has no way ([10.9])."""


class CannotLeave(PurseError):
    """A person who cannot leave the town ([10.9])."""

    def __init__(self, person):
        self.person = person


class CannotCome(PurseError):
    """A person who cannot come to the town ([10.9])."""


class CannotTakeBack(PurseError):
    """A town without a deed to take back ([10.10])."""
