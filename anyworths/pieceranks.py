"""How long debts can be paid with exchanges ahead in a pool that does not serve ([7.7], [7.8])."""

from anyworths.debtrows import Unpaid
from anyworths.debts import all_debts, check_most
from anyworths.lasting import table_key, ways_table
from anyworths.playing import chosen_way
from anyworths.pools import check_people, check_pool
from anyworths.ranks import breaking_in, ranks_in
from anyworths.splits import check_split
from anyworths.withpaying import askable_pieces, ways_with


class PieceRanks:
    """All pieces of a pool, their ranks, and the debts that break them."""

    def __init__(self, pool, people, pieces, ranks, debts):
        self.pool = pool
        self.people = people
        self.pieces = pieces
        self.ranks = ranks
        self.debts = debts

    def __eq__(self, other):
        return (isinstance(other, PieceRanks) and self.pool == other.pool and self.people == other.people
                and self.pieces == other.pieces and self.ranks == other.ranks and self.debts == other.debts)

    def __len__(self):
        return len(self.pieces)

    def __iter__(self):
        return iter(self.pieces)

    def rank_at(self, split):
        """The rank of the piece that has this split ([7.7])."""
        return self.ranks[self.place_of(split)]

    def breaking_at(self, split):
        """The breaking debt of the piece that has this split ([7.7])."""
        return self.debts[self.place_of(split)]

    def place_of(self, split):
        """The place of the piece that has this split."""
        purses = check_split(self.pool, self.people, split)
        return [purses in piece for piece in self.pieces].index(True)


def ranks_with(pool, people, *, most=None):
    """The ranks of all pieces, and their breaking debts ([7.7])."""
    coins = check_pool(pool)
    check_people(people)
    check_most(most)
    pieces = askable_pieces(coins, people)
    rows = piece_rows(pieces, most)
    ranks = ranks_in(rows)
    debts = [None if rank is None else breaking_in(row, ranks, rank) for row, rank in zip(rows, ranks)]
    return PieceRanks(coins, people, pieces, ranks, tuple(debts))


def piece_rows(pieces, most):
    """For each piece, a couple (debt, places of the pieces of its ways) for each asked debt.

    A row ends with its first debt that has no way.
    """
    splits = [purses for piece in pieces for purses in piece]
    places = [place for place, piece in enumerate(pieces) for _ in piece]
    table = ways_table(splits)
    # What table_key returns tells all ways, so the pieces into which they lead stand by it, too.
    led = {key: tuple(sorted(set([places[way] for way in table[key]]))) for key in table}
    return [piece_row(piece, led, most) for piece in pieces]


def piece_row(piece, led, most):
    """The row of one piece of piece_rows."""
    row = []
    first = piece[0]
    for debt in all_debts(first, most):
        into = sorted(set([place for purses in piece for place in led.get(table_key(purses, debt), ())]))
        row.append((debt, tuple(into)))
        # The rank is 0 then, and this debt gives it.
        if len(into) == 0:
            break
    return row


def break_with(ranks, split, choose):
    """The play of a chooser against the breaking debts, None if the rank is None ([7.8])."""
    purses = check_split(ranks.pool, ranks.people, split)
    if ranks.rank_at(purses) is None:
        return None
    splits = [purses]
    # Every breaking debt leads to lesser ranks, so this comes to one that has no way.
    while True:
        now = splits[-1]
        debt = ranks.breaking_at(now)
        ways = tuple(ways_with(now, debt))
        if len(ways) == 0:
            return Unpaid(tuple(splits), debt)
        splits.append(chosen_way(choose(now, debt, ways), ways, len(splits) - 1))
