"""Edits of a pool ([10.1], [10.2])."""

from anyworths.errors import BadEdit, BadPool
from anyworths.lots import is_within, rest_of
from anyworths.pools import GREATEST_COIN, MOST_COINS, check_pool, is_row, is_whole

MOST_EDITS = 20
LEAST_PARTS = 2
# The words of edits, each with the length of its form.
FORMS = (("put", 2), ("take", 2), ("break", 3), ("join", 3))


def check_edits(edits):
    """Edits as a tuple of tuples ([10.1])."""
    return edits_up_to(edits, 0, MOST_EDITS)


def edits_up_to(edits, least, most):
    """At least and at most so many edits, as a tuple of tuples."""
    if not is_row(edits, least, most):
        raise BadEdit(0, "many")
    return tuple([check_edit(edit, place) for place, edit in enumerate(edits)])


def check_edit(edit, place):
    """An edit as a tuple; its errors tell this place."""
    if not has_form(edit, FORMS):
        raise BadEdit(place, "edit")
    word = edit[0]
    check_edited(edit[1], place)
    if word == "join":
        check_edited(edit[2], place)
        return (word,) + tuple(sorted(edit[1:]))
    if word == "break":
        return word, edit[1], check_parts(edit[1], edit[2], place)
    return word, edit[1]


def has_form(thing, forms):
    """Whether a thing is a sequence that begins with a word and has its length, by couples of both."""
    return isinstance(thing, (list, tuple)) and len(thing) > 0 and (thing[0], len(thing)) in forms


def check_edited(coin, place):
    """Refuses what is no coin of an edit."""
    if not is_whole(coin, 1, GREATEST_COIN):
        raise BadEdit(place, "coin")


def check_parts(coin, parts, place):
    """The ascending parts of a coin."""
    try:
        coins = check_pool(parts)
    except BadPool:
        raise BadEdit(place, "parts") from None
    if len(coins) < LEAST_PARTS or sum(coins) != coin:
        raise BadEdit(place, "parts")
    return coins


def does_fit(pool, edit):
    """Whether an edit fits a pool ([10.2])."""
    coins = check_pool(pool)
    return edited(coins, check_edit(edit, 0)) is not None


def edited(coins, edit):
    """The pool behind an edit, or None if it does not fit."""
    taken, put = taken_and_put(edit)
    if not is_within(coins, taken):
        return None
    together = tuple(sorted(rest_of(coins, taken) + put))
    if len(together) > MOST_COINS or max(together, default=0) > GREATEST_COIN:
        return None
    return together


def taken_and_put(edit):
    """The coins that an edit takes out, and those that it puts in."""
    if edit[0] == "put":
        return (), edit[1:]
    if edit[0] == "take":
        return edit[1:], ()
    if edit[0] == "break":
        return edit[1:2], edit[2]
    return edit[1:], (sum(edit[1:]),)


def pool_after(pool, edits):
    """The pool behind edits that are made one after another, where they fit ([10.2])."""
    coins = check_pool(pool)
    return edited_all(coins, check_edits(edits))


def edited_all(coins, edits):
    """What pool_after returns, for arguments that are checked."""
    for edit in edits:
        after = edited(coins, edit)
        if after is not None:
            coins = after
    return coins
