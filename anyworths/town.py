"""Towns: people with purses whose deeds can be taken back ([10.9], [10.10])."""

from anyworths.debts import check_debt, sums_in
from anyworths.errors import BadWay, CannotCome, CannotLeave, CannotPay, CannotTakeBack
from anyworths.exchanges import check_exchange
from anyworths.greedy import greatest_first
from anyworths.leaving import leaves
from anyworths.lots import rest_of
from anyworths.payments import swapped, way_fault, ways_in
from anyworths.pools import MOST_COINS, MOST_PEOPLE, check_person, check_pool
from anyworths.serving import failing_in
from anyworths.splits import check_purses, coins_of


class Town:
    """A split that changes by deeds, and the log of these deeds."""

    def __init__(self, split):
        self.purses = check_purses(split)
        self.log = ()
        # The splits ahead of the deeds of the log.
        self.before = ()
        # This town as it was when the last block of a trial was entered that is not at its end.
        self.held = None

    def __len__(self):
        return len(self.log)

    def __iter__(self):
        return iter(self.log)

    @property
    def coins_now(self):
        """The pool of all coins."""
        return coins_of(self.purses)

    @property
    def worths_now(self):
        """The worths of the persons."""
        return sums_in(self.purses)

    @property
    def is_served(self):
        """Whether the pool serves the people."""
        return len(failing_in(coins_of(self.purses), len(self.purses))) == 0

    def note(self, deed, purses):
        """Makes a deed that leads to these purses."""
        self.before = self.before + (self.purses,)
        self.log = self.log + (deed,)
        self.purses = purses

    def pay(self, debt, way=None):
        """Pays a debt by this way or by the first one, and returns the split behind it ([10.9])."""
        told = check_debt(self.purses, debt)
        if way is None:
            ways = ways_in(self.purses, told, {})
            if len(ways) == 0:
                raise CannotPay()
            after = ways[0]
        else:
            word = way_fault(self.purses, told, way)
            if word is not None:
                raise BadWay(word)
            after = check_purses(way)
        self.note(("pay", told), after)
        return self.purses

    def exchange_lots(self, told):
        """Makes an exchange, and returns the split behind it ([10.9])."""
        exchange = check_exchange(self.purses, told)
        self.note(("exchange", exchange), swapped(self.purses, exchange))
        return self.purses

    def leave(self, person):
        """Lets a person go, and returns the lot that the person takes ([10.9])."""
        people = len(self.purses)
        check_person(people, person)
        if people == 1 or not self.is_served:
            raise CannotLeave(person)
        coins = self.coins_now
        worths = self.worths_now
        lot = leaves(coins, people, worths[person])
        # The rest serves those who stay, so this never sticks.
        purses = greatest_first(rest_of(coins, lot), worths[:person] + worths[person + 1:])
        self.note(("leave", person, lot), purses)
        return lot

    def come(self, lot):
        """Lets a newcomer come with a lot, and returns the new person ([10.9])."""
        newcomer = check_pool(lot)
        person = len(self.purses)
        coins = tuple(sorted(self.coins_now + newcomer))
        if person == MOST_PEOPLE or len(coins) > MOST_COINS or len(failing_in(coins, person + 1)) > 0:
            raise CannotCome()
        self.note(("come", newcomer), self.purses + (newcomer,))
        return person

    def take_back(self):
        """Takes the last deed of the log back, and returns it ([10.10])."""
        if len(self.log) == 0:
            raise CannotTakeBack()
        deed = self.log[-1]
        self.purses = self.before[-1]
        self.log = self.log[:-1]
        self.before = self.before[:-1]
        return deed

    def trial(self):
        """What makes a block a trial, which leaves everything as it was ([10.10])."""
        return self

    def tried(self, call):
        """What a function returns for the town within a trial ([10.10])."""
        with self.trial() as town:
            return call(town)

    def __enter__(self):
        held = Town(self.purses)
        held.log = self.log
        held.before = self.before
        held.held = self.held
        self.held = held
        return self

    def __exit__(self, kind, value, trace):
        self.purses = self.held.purses
        self.log = self.held.log
        self.before = self.held.before
        self.held = self.held.held
