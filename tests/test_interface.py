"""The interface: names, arguments, and the files in which functions and classes are defined."""

import ast
import importlib
import inspect
import unittest
from pathlib import Path

PACKAGE = Path(__file__).resolve().parent.parent / "anyworths"
GENERATORS = {
    "all_lots", "lots_with", "all_splits", "all_wishes", "giving_steps", "given_wishes", "splits_for",
    "all_pools", "all_least", "all_minted",
}
FUNCTIONS = {
    "pools": [
        "check_pool(coins)", "check_people(people, low=1)", "check_person(people, person)",
        "check_amount(amount, low=0)", "total_of(pool)", "counted_coins(pool)",
    ],
    "lots": [
        "all_lots(pool)", "lots_with(pool, amount)", "count_lots(pool)", "lot_with(pool, amount)",
        "sums_of(pool)", "has_lot(pool, lot)", "less_lot(pool, lot)", "joined_pools(one, other)",
    ],
    "splits": [
        "check_purses(split)", "check_split(pool, people, split)", "renamed_split(split, order)",
        "pool_of(split)", "worths_of(split)", "all_splits(pool, people)", "count_splits(pool, people)",
        "split_number(split)", "split_by_number(pool, people, number)",
    ],
    "wishes": [
        "check_wish(wish, total)", "even_wish(total, people)", "all_wishes(total, people)",
        "count_wishes(total, people)",
    ],
    "splittext": ["coins_text(pool)", "split_text(split)", "parse_coins(text)", "parse_split(text)"],
    "debttext": ["wish_text(wish)", "debts_text(debts)", "parse_wish(text)", "parse_debts(text)"],
    "serving": [
        "failing_places(pool, people)", "serves(pool, people)", "most_people(pool)", "most_people_row(pool)",
        "short_room(pool, wish)", "unserved_fault(pool, people, unserved)",
    ],
    "greedy": ["greatest_first(pool, wish)", "hand_out(pool, wish, choose)", "giving_steps(pool, wish)"],
    "searching": [
        "layers_of(pool, wish)", "any_split(pool, wish)", "layers_fault(pool, wish, layers)",
        "given_wishes(pool, people)", "wishes_given(pool, people)", "first_missing(pool, people)",
        "misled_wish(pool, people)",
    ],
    "holding": ["splits_for(pool, wish)", "count_splits_for(pool, wish)", "held_range(pool, wish, worth)"],
    "rations": [
        "check_ration(pool, ration)", "greatest_ration(pool, people)", "serves_rations(pool, people, most)",
        "hand_rations(pool, ration)",
    ],
    "leastpools": [
        "room_of(total, people)", "greatest_total(count, people)", "fewest_coins(total, people)",
        "greatest_coin(total, people)", "least_total_with(coin, people)", "fewest_with(coin, people)",
        "count_pools(count, total, people)", "totals_row(count, people)", "pool_for(count, total, people)",
        "greatest_unlike(count, unlike, people)", "all_pools(count, total, people)",
        "all_least(total, people)",
    ],
    "nextcoins": [
        "room_row(pool, people)", "mending_coins(pool, people)", "fitting_coins(pool, people)",
        "next_coin(pool, people)", "may_put(pool, coin, people)",
    ],
    "mints": [
        "check_kinds(kinds)", "kinds_let(kinds, total, people)", "greatest_from(kinds, count, people)",
        "all_minted(kinds, count, people)", "fewest_from(kinds, total, people)",
        "mint_fault(kinds, total, people, answer)",
    ],
}
RESULTS = {
    "serving": {"Unserved": ("place", "wish")},
    "greedy": {"Stuck": ("coin", "lacks")},
    "searching": {"NoSplit": ("layers",)},
    "rations": {"Short": ("place", "ration"), "Handed": ("lots", "rest"), "Lacking": ("lacks", "rest")},
    "leastpools": {"NoPool": ("low", "high")},
    "mints": {"Minted": ("pool", "layers"), "NoMint": ("layers",)},
}


def module(name):
    return importlib.import_module("anyworths." + name)


def results():
    """All result classes with their attributes."""
    for name, classes in RESULTS.items():
        for told, attributes in classes.items():
            yield getattr(module(name), told), attributes


class Interface(unittest.TestCase):
    def test_functions_have_the_told_arguments(self):
        for name, told in FUNCTIONS.items():
            for signature in told:
                word = signature.partition("(")[0]
                function = getattr(module(name), word)
                self.assertEqual(word + str(inspect.signature(function)), signature)

    def test_functions_and_classes_are_defined_in_the_told_file(self):
        for name, told in FUNCTIONS.items():
            tree = ast.parse((PACKAGE / (name + ".py")).read_text())
            defined = {row.name for row in tree.body if isinstance(row, (ast.FunctionDef, ast.ClassDef))}
            wanted = {signature.partition("(")[0] for signature in told} | set(RESULTS.get(name, {}))
            self.assertLessEqual(wanted, defined, name)

    def test_just_the_told_functions_are_generators(self):
        for name, told in FUNCTIONS.items():
            for signature in told:
                word = signature.partition("(")[0]
                function = getattr(module(name), word)
                self.assertEqual(inspect.isgeneratorfunction(function), word in GENERATORS, word)

    def test_results_have_the_told_arguments_and_their_methods_in_the_class(self):
        for result, attributes in results():
            self.assertEqual(tuple(inspect.signature(result).parameters), attributes)
            self.assertIn("__init__", vars(result))
            self.assertIn("__eq__", vars(result))


class Results(unittest.TestCase):
    """0.5 and 0.8: what results keep, and what they are equal to."""

    def test_they_keep_the_very_things_and_check_nothing(self):
        for result, attributes in results():
            things = [[1, [2]], object()][: len(attributes)]
            made = result(*things)
            self.assertEqual(list(vars(made)), list(attributes))
            for attribute, thing in zip(attributes, things):
                self.assertIs(getattr(made, attribute), thing)
            told = result(**dict(zip(attributes, things)))
            for attribute, thing in zip(attributes, things):
                self.assertIs(getattr(told, attribute), thing)

    def test_they_are_equal_exactly_if_all_attributes_are(self):
        for result, attributes in results():
            values = [(1, 2), 3][: len(attributes)]
            self.assertTrue(result(*values) == result(*values))
            self.assertFalse(result(*values) != result(*values))
            for at in range(len(values)):
                others = list(values)
                others[at] = (4,)
                self.assertFalse(result(*values) == result(*others))
                self.assertTrue(result(*values) != result(*others))

    def test_they_are_equal_to_nothing_else(self):
        made = [result(*[(), ()][: len(attributes)]) for result, attributes in results()]
        for at, one in enumerate(made):
            for other in made[:at] + made[at + 1:] + [None, (), ((), ()), [], 0, "", True, object()]:
                self.assertFalse(one == other)
                self.assertTrue(one != other)
                self.assertFalse(other == one)


if __name__ == "__main__":
    unittest.main()
