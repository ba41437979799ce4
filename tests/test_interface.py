"""The interface: names, arguments, and the files in which functions and classes are defined."""

import ast
import importlib
import inspect
import unittest
from pathlib import Path

PACKAGE = Path(__file__).resolve().parent.parent / "anyworths"
GENERATORS = {
    "all_lots", "lots_with", "all_splits", "all_wishes", "giving_steps", "given_wishes", "splits_for",
    "all_pools", "all_least", "all_minted", "felling_lots", "all_bearing", "all_least_puts", "step_wishes",
    "all_debts", "unpaid_debts", "ways_of", "banded_splits", "asked_debts", "exchanges_of", "resplits", "ways_with",
    "lots_leaving",
}
FUNCTIONS = {
    "pools": [
        "check_pool(coins)", "check_people(people, low=1)", "check_person(people, person)",
        "check_amount(amount, low=0)", "total_of(pool)", "counted_coins(pool)",
    ],
    "lots": [
        "all_lots(pool)", "lots_with(pool, amount)", "count_lots(pool)", "lot_with(pool, amount)",
        "sums_of(pool)", "has_lot(pool, lot)", "less_lot(pool, lot)", "joined_pools(one, other)",
    ],
    "splits": [
        "check_purses(split)", "check_split(pool, people, split)", "renamed_split(split, order)",
        "pool_of(split)", "worths_of(split)", "all_splits(pool, people)", "count_splits(pool, people)",
        "split_number(split)", "split_by_number(pool, people, number)",
    ],
    "wishes": [
        "check_wish(wish, total)", "even_wish(total, people)", "all_wishes(total, people)",
        "count_wishes(total, people)",
    ],
    "splittext": ["coins_text(pool)", "split_text(split)", "parse_coins(text)", "parse_split(text)"],
    "debttext": ["wish_text(wish)", "debts_text(debts)", "parse_wish(text)", "parse_debts(text)"],
    "serving": [
        "failing_places(pool, people)", "serves(pool, people)", "most_people(pool)", "most_people_row(pool)",
        "short_room(pool, wish)", "unserved_fault(pool, people, unserved)",
    ],
    "greedy": ["greatest_first(pool, wish)", "hand_out(pool, wish, choose)", "giving_steps(pool, wish)"],
    "searching": [
        "layers_of(pool, wish)", "any_split(pool, wish)", "layers_fault(pool, wish, layers)",
        "given_wishes(pool, people)", "wishes_given(pool, people)", "first_missing(pool, people)",
        "misled_wish(pool, people)",
    ],
    "holding": ["splits_for(pool, wish)", "count_splits_for(pool, wish)", "held_range(pool, wish, worth)"],
    "rations": [
        "check_ration(pool, ration)", "greatest_ration(pool, people)", "serves_rations(pool, people, most)",
        "hand_rations(pool, ration)",
    ],
    "leastpools": [
        "room_of(total, people)", "greatest_total(count, people)", "fewest_coins(total, people)",
        "greatest_coin(total, people)", "least_total_with(coin, people)", "fewest_with(coin, people)",
        "count_pools(count, total, people)", "totals_row(count, people)", "pool_for(count, total, people)",
        "greatest_unlike(count, unlike, people)", "all_pools(count, total, people)",
        "all_least(total, people)",
    ],
    "nextcoins": [
        "room_row(pool, people)", "mending_coins(pool, people)", "fitting_coins(pool, people)",
        "next_coin(pool, people)", "may_put(pool, coin, people)",
    ],
    "mints": [
        "check_kinds(kinds)", "kinds_let(kinds, total, people)", "greatest_from(kinds, count, people)",
        "all_minted(kinds, count, people)", "fewest_from(kinds, total, people)",
        "mint_fault(kinds, total, people, answer)",
    ],
    "losses": [
        "check_lost(lost)", "serves_after(pool, people, lost)", "fallen_fault(pool, people, lost, fallen)",
        "needed_coins(pool, people)", "most_lost(pool, people)", "most_people_after(pool, lost)",
        "loss_table(pool)", "felling_lots(pool, people, lost)",
    ],
    "bearing": [
        "greatest_bearing(count, people, lost)", "bearing_pool(count, total, people, lost)",
        "fewest_bearing(total, people, lost)", "next_bearing(pool, people, lost)",
        "bearing_part(pool, people, lost)", "least_put(pool, people, lost)",
        "all_bearing(count, total, people, lost)", "all_least_puts(pool, people, lost)",
    ],
    "finer": [
        "finer_heaps(one, other)", "is_finer(one, other)", "heaps_fault(one, other, heaps)",
        "led_split(split, heaps)", "broken_coin(pool, coin, parts)", "joined_coins(pool, lot)",
        "may_join(pool, people, lot)", "good_joins(pool, people)",
    ],
    "steps": [
        "step_of(pool)", "check_step(pool, step)", "parted_pool(pool, step)", "times_pool(pool, times)",
        "serves_steps(pool, people, step)", "serving_step(pool, people)", "near_wish(wish, step)",
        "near_split(pool, wish)", "step_wishes(total, people, step)",
    ],
    "debts": [
        "check_debt(split, debt)", "all_debts(split, most=None)", "count_debts(split, most=None)",
        "paid_amounts(split, debtor, creditor)", "unpaid_ranges(split, debtor, creditor)",
        "unpaid_debts(split, most=None)", "count_unpaid(split, most=None)",
    ],
    "payments": [
        "can_pay(split, debt)", "ways_of(split, debt)", "first_way(split, debt)", "count_ways(split, debt)",
        "way_fault(split, debt, paid)", "payment_of(split, debt, paid)",
        "after_payment(split, debt, over, back)", "exact_payment(split, debt)",
    ],
    "freedom": [
        "greatest_unpaid(split, debtor, creditor)", "pays_every(split, debtor, creditor)", "free_pairs(split)",
        "pays_all(split)", "least_aid(split, debtor, creditor)",
    ],
    "debtrows": [
        "check_debts(split, debts)", "worths_after(split, debts)", "play_row(split, debts)",
        "count_plays(split, debts)", "most_paid(split, debts)", "worst_play(split, debts)",
        "played_fault(split, debts, played)", "unpaid_fault(split, debts, unpaid)",
    ],
    "playing": [
        "choose_first(split, debt, ways)", "choose_fewest_moved(split, debt, ways)",
        "choose_most_ones(split, debt, ways)", "choose_evenest(split, debt, ways)",
        "choose_most_free(split, debt, ways)", "play_debts(split, debts, choose)",
        "play_against(split, ask, choose, turns)",
    ],
    "chains": ["chain_of(split, debt)", "chain_fault(split, debt, chain)"],
    "bands": [
        "check_band(band)", "is_banded(split, *, band=None)", "banded_splits(pool, people, *, band=None)",
        "asked_debts(split, *, band=None, most=None)", "is_asked(split, debt, *, band=None, most=None)",
    ],
    "lasting": [
        "lasting_splits(pool, people, *, band=None, most=None)",
        "lasting_wishes(pool, people, *, band=None, most=None)", "is_lasting(split, *, band=None, most=None)",
        "lasts_for(pool, people)", "widest_bands(pool, people)", "least_low(pool, people)",
    ],
    "books": ["book_of(pool, people, *, band=None, most=None)", "book_fault(book)", "book_chooser(book)"],
    "ranks": [
        "ranks_of(pool, people, *, band=None, most=None)", "rank_of(split, *, band=None, most=None)",
        "ranks_fault(pool, people, ranks, *, band=None, most=None)",
    ],
    "breaking": [
        "breaking_debt(split, *, band=None, most=None)", "longest_way(split, debt, *, band=None, most=None)",
        "longest_chooser(pool, people, *, band=None, most=None)",
        "play_breaking(split, choose, *, band=None, most=None)",
    ],
    "draining": ["draining_debts(split, holder, emptied, helper)", "drain_bound(split)"],
    "exchanges": [
        "check_exchange(split, exchange)", "after_exchange(split, exchange)", "after_exchanges(split, exchanges)",
        "is_least(split, exchange)", "exchanges_of(split)", "least_parts(split, exchange)",
        "resplits(split, one, other)",
    ],
    "pieces": [
        "piece_of(split)", "pieces_with(pool, wish)", "all_pieces(pool, people)", "joined_by(split, other)",
        "piece_fault(split, piece)",
    ],
    "withpaying": [
        "paid_with(split, debt)", "paid_with_fault(split, debt, paid)", "ways_with(split, debt)",
        "unpaid_with(split, most=None)", "always_paid(pool, people)",
    ],
    "pieceranks": ["ranks_with(pool, people, *, most=None)", "break_with(ranks, split, choose)"],
    "leaving": [
        "taken_lot(pool, worth)", "lots_leaving(pool, left, worth)", "worths_leaving(pool, left)",
        "leaves(pool, people, worth)", "stays_fault(pool, people, worth, stays)", "all_leave(pool, wish, order)",
        "first_leavers(pool, wish)",
    ],
    "going": ["may_go(split, person)", "goes_with(split, person)"],
    "coming": ["comes(pool, people, lot)", "come_all(pool, people, lots)", "takes_over(pool, people, worth, lot)"],
    "moving": ["fewest_moved(split, other)", "moves_between(split, other)", "after_moves(split, moves)"],
    "cheapest": ["fewest_in_payment(split, debt)", "fewest_to_wish(split, wish)", "cheapest_row(split, debts)"],
    "seeing": [
        "check_seens(people, seens)", "seen_payment(split, debt, way)", "least_lots(people, seens)",
        "after_seens(split, seens)",
    ],
    "guessing": [
        "all_guesses(pool, worths, seens)", "guesses_now(pool, worths, seens)", "sure_coins(pool, worths, seens)",
        "most_coins(pool, worths, seens)", "sure_to_pay(pool, worths, seens, debt)",
    ],
    "asking": [
        "best_question(pool, worths, seens)", "find_out(pool, worths, seens, answer)",
        "fewest_questions(pool, worths, seens)",
    ],
    "edits": ["check_edits(edits)", "does_fit(pool, edit)", "pool_after(pool, edits)"],
    "goals": ["check_goals(goals)", "missed_goal(pool, goals)", "missed_fault(pool, goals, missed)"],
    "mends": [
        "find_mends(pool, offer, goals)", "mends_fault(pool, offer, goals, mends)", "find_spoilers(pool, offer, goals)",
    ],
}
RESULTS = {
    "serving": {"Unserved": ("place", "wish")},
    "greedy": {"Stuck": ("coin", "lacks")},
    "searching": {"NoSplit": ("layers",)},
    "rations": {"Short": ("place", "ration"), "Handed": ("lots", "rest"), "Lacking": ("lacks", "rest")},
    "leastpools": {"NoPool": ("low", "high")},
    "mints": {"Minted": ("pool", "layers"), "NoMint": ("layers",)},
    "losses": {"Fallen": ("lot", "coin", "wish")},
    "payments": {"Payment": ("over", "back")},
    "debtrows": {"Played": ("splits",), "Blocked": ("layers",), "Unpaid": ("splits", "debt")},
    "chains": {"Chain": ("persons", "splits")},
    "books": {"Book": ("pool", "people", "band", "most", "splits", "answers")},
    "breaking": {"Collapse": ("debts", "splits")},
    "pieces": {"Apart": ("piece",)},
    "withpaying": {
        "PaidWith": ("exchanges", "purses", "way"), "Closed": ("piece",), "NeverPaid": ("purses", "debt"),
    },
    "pieceranks": {"PieceRanks": ("pool", "people", "pieces", "ranks", "debts")},
    "leaving": {"Stays": ("rows",)},
    "going": {"Gone": ("exchanges", "lot", "purses"), "Kept": ("piece",)},
    "coming": {"Halts": ("place", "unserved")},
    "cheapest": {"PaidRow": ("moved", "splits"), "Halted": ("place",)},
    "guessing": {"Unsure": ("can", "cannot")},
    "asking": {"Found": ("asked", "purses")},
    "goals": {"Missed": ("place", "why")},
    "mends": {"Mends": ("least", "failing"), "Spoiler": ("choice", "added", "missed")},
}
# What classes have beside __init__ and __eq__.
METHODS = {
    "Book": ("answer_to(self, split, debt)",),
    "PieceRanks": ("rank_at(self, split)", "breaking_at(self, split)", "__len__(self)", "__iter__(self)"),
}


def module(name):
    return importlib.import_module("anyworths." + name)


def results():
    """All result classes with their attributes."""
    for name, classes in RESULTS.items():
        for told, attributes in classes.items():
            yield getattr(module(name), told), attributes


TOWN = (
    "__init__(self, split)", "__len__(self)", "__iter__(self)", "pay(self, debt, way=None)",
    "exchange_lots(self, told)", "leave(self, person)", "come(self, lot)", "take_back(self)", "trial(self)",
    "tried(self, call)",
)


class Interface(unittest.TestCase):
    def test_all_modules_are_told(self):
        files = {path.stem for path in PACKAGE.glob("*.py")}
        self.assertEqual(files, set(FUNCTIONS) | {"__init__", "errors", "town"})

    def test_properties_stand_in_their_class(self):
        town, mends = module("town").Town, module("mends").Mends
        for owner, words in ((town, ("coins_now", "worths_now", "is_served")), (mends, ("needed",))):
            for word in words:
                self.assertIsInstance(vars(owner)[word], property)

    def test_the_town(self):
        town = module("town").Town
        for signature in TOWN:
            word = signature.partition("(")[0]
            self.assertEqual(word + str(inspect.signature(vars(town)[word])), signature)
        made = town(((1,),))
        self.assertLessEqual({"purses", "log"}, set(vars(made)))
        self.assertEqual(town.__module__, "anyworths.town")

    def test_errors_are_all_in_their_file(self):
        for name in FUNCTIONS:
            for thing in vars(module(name)).values():
                if inspect.isclass(thing) and issubclass(thing, Exception):
                    self.assertEqual(thing.__module__, "anyworths.errors")

    def test_functions_have_the_told_arguments(self):
        for name, told in FUNCTIONS.items():
            for signature in told:
                word = signature.partition("(")[0]
                function = getattr(module(name), word)
                self.assertEqual(word + str(inspect.signature(function)), signature)

    def test_functions_and_classes_are_defined_in_the_told_file(self):
        for name, told in FUNCTIONS.items():
            tree = ast.parse((PACKAGE / (name + ".py")).read_text())
            defined = {row.name for row in tree.body if isinstance(row, (ast.FunctionDef, ast.ClassDef))}
            wanted = {signature.partition("(")[0] for signature in told} | set(RESULTS.get(name, {}))
            self.assertLessEqual(wanted, defined, name)

    def test_just_the_told_functions_are_generators(self):
        for name, told in FUNCTIONS.items():
            for signature in told:
                word = signature.partition("(")[0]
                function = getattr(module(name), word)
                self.assertEqual(inspect.isgeneratorfunction(function), word in GENERATORS, word)

    def test_results_have_the_told_arguments_and_their_methods_in_the_class(self):
        for result, attributes in results():
            self.assertEqual(tuple(inspect.signature(result).parameters), attributes)
            self.assertIn("__init__", vars(result))
            self.assertIn("__eq__", vars(result))
            for signature in METHODS.get(result.__name__, ()):
                word = signature.partition("(")[0]
                self.assertIn(word, vars(result))
                self.assertEqual(word + str(inspect.signature(getattr(result, word))), signature)


class Results(unittest.TestCase):
    """0.5 and 0.8: what results keep, and what they are equal to."""

    def test_they_keep_the_very_things_and_check_nothing(self):
        for result, attributes in results():
            things = [[1, [2]], object(), None, {}, (3,), True][: len(attributes)]
            made = result(*things)
            self.assertEqual(list(vars(made)), list(attributes))
            for attribute, thing in zip(attributes, things):
                self.assertIs(getattr(made, attribute), thing)
            told = result(**dict(zip(attributes, things)))
            for attribute, thing in zip(attributes, things):
                self.assertIs(getattr(told, attribute), thing)

    def test_they_are_equal_exactly_if_all_attributes_are(self):
        for result, attributes in results():
            values = [(1, 2), 3, None, "5", (), 6][: len(attributes)]
            self.assertTrue(result(*values) == result(*values))
            self.assertFalse(result(*values) != result(*values))
            for at in range(len(values)):
                others = list(values)
                others[at] = (4,)
                self.assertFalse(result(*values) == result(*others))
                self.assertTrue(result(*values) != result(*others))

    def test_they_are_equal_to_nothing_else(self):
        made = [result(*[()] * len(attributes)) for result, attributes in results()]
        for at, one in enumerate(made):
            for other in made[:at] + made[at + 1:] + [None, (), ((), ()), [], 0, "", True, object()]:
                self.assertFalse(one == other)
                self.assertTrue(one != other)
                self.assertFalse(other == one)
            self.assertFalse(one == tuple(vars(one).values()))
            self.assertTrue(one != tuple(vars(one).values()))
            self.assertFalse(one == list(vars(one).values()))


if __name__ == "__main__":
    unittest.main()
