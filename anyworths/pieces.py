"""Pieces: the splits to which exchanges lead from each other ([7.4], [7.5])."""

from anyworths.bands import few_splits
from anyworths.debts import sums_in
from anyworths.errors import BadSplit, TooMany
from anyworths.exchanges import are_least, pairs_of, resplits_in
from anyworths.holding import splits_meeting
from anyworths.lots import beyond
from anyworths.payments import with_purses
from anyworths.pools import check_people, check_pool
from anyworths.searching import MOST_LISTED
from anyworths.splits import check_purses, coins_of, split_order
from anyworths.wishes import check_wish


class Apart:
    """The piece of a split that another split is not in."""

    def __init__(self, piece):
        self.piece = piece

    def __eq__(self, other):
        return isinstance(other, Apart) and self.piece == other.piece


def piece_of(split):
    """The piece of a split, in the order of all_splits ([7.4])."""
    return piece_in(check_purses(split))


def piece_in(purses):
    """What piece_of returns, for purses that are checked."""
    found = {purses: True}
    waiting = [purses]
    joined = {}
    lots = [{} for _ in purses]
    while len(waiting) > 0:
        now = waiting.pop()
        for there in unseen_resplits(now, joined, lots):
            if there not in found:
                found[there] = True
                waiting.append(there)
        if len(found) > MOST_LISTED:
            raise TooMany(MOST_LISTED)
    return tuple(sorted(found, key=split_order))


def unseen_resplits(purses, joined, lots):
    """The splits that one exchange makes; joined keeps whose coins were parted in all ways already."""
    found = []
    for one, other in pairs_of(len(purses)):
        together = tuple(sorted(purses[one] + purses[other]))
        key = (one, other, with_purses(purses, one, together, other, ()))
        if key not in joined:
            joined[key] = True
            found.extend(resplits_in(purses, one, other, lots[one]))
    return found


def pieces_with(pool, wish):
    """The pieces of all splits that meet a wish, in the order of their first splits ([7.4])."""
    coins = check_pool(pool)
    return pieces_among(splits_meeting(coins, check_wish(wish, sum(coins))))


def all_pieces(pool, people):
    """The pieces of all splits, in the order of their first splits ([7.4])."""
    coins = check_pool(pool)
    return pieces_among(few_splits(coins, check_people(people)))


def pieces_among(splits):
    """The pieces of splits that are told in their order and with their whole pieces."""
    pieces = []
    known = {}
    for purses in splits:
        if purses not in known:
            pieces.append(piece_in(purses))
            for there in pieces[-1]:
                known[there] = True
    return tuple(pieces)


def joined_by(split, other):
    """The fewest least exchanges that lead from one split to the other, or Apart ([7.5])."""
    purses = check_purses(split)
    wanted = check_purses(other)
    piece = piece_in(purses)
    if wanted not in piece:
        return Apart(piece)
    return led_to(purses, {wanted: True})[0]


def led_to(purses, goals):
    """The fewest least exchanges that lead to one of the goals, some of which are in the piece, and that goal."""
    steps = {purses: None}
    rows = [purses]
    lots = [{} for _ in purses]
    at = 0
    while rows[at] not in goals:
        now = rows[at]
        found = least_steps(now, steps, lots)
        for there, exchange in found:
            steps[there] = (now, exchange)
            rows.append(there)
        at = at + 1
    return exchanges_along(steps, rows[at]), rows[at]


def least_steps(purses, known, lots):
    """Couples of a split that is not known and the least exchange that leads to it."""
    found = []
    for one, other in pairs_of(len(purses)):
        for there in resplits_in(purses, one, other, lots[one]):
            if there not in known:
                lot = beyond(purses[one], there[one])
                back = beyond(there[one], purses[one])
                if are_least(lot, back):
                    found.append((there, (one, other, lot, back)))
    return found


def exchanges_along(steps, last):
    """The exchanges that lead to the last split, by couples of the split before and the exchange."""
    exchanges = []
    step = steps[last]
    while step is not None:
        exchanges.append(step[1])
        step = steps[step[0]]
    return tuple(exchanges[::-1])


def piece_fault(split, piece):
    """None if no exchanges lead out of a piece that has the split, otherwise the first word that applies ([7.5])."""
    purses = check_purses(split)
    rows = like_splits(purses, piece)
    if rows is None:
        return "form"
    orders = [split_order(there) for there in rows]
    if orders != sorted(orders) or len(set(rows)) < len(rows):
        return "order"
    if purses not in rows:
        return "start"
    found = {there: True for there in rows}
    joined = {}
    lots = [{} for _ in purses]
    # Every exchange is made by least ones, so if any leads out of the piece a least one does.
    for now in rows:
        if not all([there in found for there in unseen_resplits(now, joined, lots)]):
            return "left"
    return None


def like_splits(purses, thing):
    """The list of splits that a thing consists of, None if it is no sequence of splits with these coins and worths."""
    if not isinstance(thing, (list, tuple)):
        return None
    rows = []
    for split in thing:
        try:
            there = check_purses(split)
        except BadSplit:
            return None
        if sums_in(there) != sums_in(purses) or coins_of(there) != coins_of(purses):
            return None
        rows.append(there)
    return rows
