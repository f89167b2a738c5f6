"""[1] to [4]: the interface, arguments by position and by name, new results, and the limits."""

import importlib
import inspect
import types
import unittest

from kindtwice.desk import Desk
from kindtwice.errors import (InvalidCount, InvalidDeed, InvalidDeeds, InvalidDesk, InvalidFalls, InvalidKind,
                              InvalidKinds, InvalidLog, InvalidLogs, InvalidMap, InvalidMarks, InvalidMoves,
                              InvalidPlace, InvalidRecord, InvalidRow, InvalidScript, InvalidSetting, InvalidState,
                              InvalidStore, InvalidTable, InvalidText, InvalidTree, InvalidTwice, Refused)
from kindtwice.kinds import Kinds, bare_rows, is_bare, is_longest_bare, longest_bare, most_bare, power, put_all
from kindtwice.settings import Setting, is_log, kind_between, kind_of, many_by_kind, may_redo, redo_points, renamed
from kindtwice.stores import Store
from tests.helping import LONG, ONE, PARITY, Case, once_again, put_together, strict, words_of, wreck

METHODS = {
    ("kindtwice.kinds", "Kinds"): {"table": [], "words": [], "put": ["one", "other"]},
    ("kindtwice.settings", "Setting"): {"kinds": [], "deeds": [], "twice": []},
    ("kindtwice.stores", "Store"): {"moves": [], "states": [], "deeds": []},
    ("kindtwice.desk", "Desk"): {
        "meant": [], "done": [], "marks": [], "falls": [], "at": [], "do": ["deed"], "mark": [], "fall": [],
        "go_on": [], "is_safe": [], "why_not": [], "next_mark": ["log"], "chain": [], "undo": [], "redo": [],
        "trial": [], "attempt": ["action"], "copy": [], "record": []},
}
WITHOUT_EQUALS = ["Desk"]


def parity():
    return Kinds(dict(PARITY))


def setting():
    return Setting(parity(), {"a": "odd", "b": "even"}, ["even"])


def endless():
    return Setting(parity(), {"a": "odd", "b": "even"}, [])


def single():
    return Setting(Kinds(dict(ONE)), {"a": "k", "b": "k"}, ["k"])


def switch():
    return {"on": {"b": "on", "a": "off"}, "off": {"a": "on", "b": "off"}}


def busy():
    """A desk on which all commands stand, one taken back."""
    desk = Desk(setting())
    desk.do("b")
    desk.mark()
    desk.do("b")
    desk.fall()
    desk.go_on()
    desk.do("a")
    desk.undo()
    return desk


def tree():
    return ("pair", "a", ("run", "even", ["b", "b"]))


# The functions and classes of the interface, with right arguments under their names, in their order.
FUNCTIONS = {
    "kindtwice.kinds": {
        "Kinds": lambda: {"table": dict(PARITY)},
        "put_all": lambda: {"kinds": parity(), "row": ["odd", "even"]},
        "opposite": lambda: {"kinds": parity()},
        "own_squares": lambda: {"kinds": parity()},
        "power": lambda: {"kinds": parity(), "kind": "odd", "number": 3},
        "own_power": lambda: {"kinds": parity(), "kind": "odd"},
        "coming_back": lambda: {"kinds": parity(), "kind": "odd"},
        "is_bare": lambda: {"kinds": parity(), "row": ["odd"]},
        "bare_rows": lambda: {"kinds": parity(), "number": 1},
        "most_bare": lambda: {"kinds": parity()},
        "longest_bare": lambda: {"kinds": parity()},
        "is_longest_bare": lambda: {"kinds": parity(), "value": ["odd"]},
    },
    "kindtwice.settings": {
        "Setting": lambda: {"kinds": parity(), "deeds": {"b": "even", "a": "odd"}, "twice": ["even"]},
        "is_log": lambda: {"setting": setting(), "value": ["a"]},
        "kind_of": lambda: {"setting": setting(), "log": ["a", "b"]},
        "kind_between": lambda: {"setting": setting(), "log": ["a", "b"], "first": 0, "last": 1},
        "many_by_kind": lambda: {"setting": setting(), "log": ["a", "b"]},
        "redo_points": lambda: {"setting": setting(), "log": ["a", "b"]},
        "may_redo": lambda: {"setting": setting(), "log": ["a", "b"], "first": 1, "last": 2},
        "with_twice": lambda: {"setting": setting(), "twice": []},
        "opposite_setting": lambda: {"setting": setting()},
        "renamed": lambda: {"setting": setting(), "sent": {"a": "x", "b": "y"}},
    },
    "kindtwice.rows": {
        "is_row": lambda: {"setting": setting(), "log": ["b", "b"], "value": ("even", [0, 1])},
        "most_stretches": lambda: {"setting": setting(), "log": ["b", "b"]},
        "longest_row": lambda: {"setting": setting(), "log": ["b", "b"]},
        "is_longest_row": lambda: {"setting": setting(), "log": ["b", "b"], "value": ("even", [0, 1, 2])},
        "most_by_kind": lambda: {"setting": setting(), "log": ["b", "b"]},
        "shortened": lambda: {"setting": setting(), "log": ["b", "b"], "row": ("even", [0, 1, 2]), "first": 0,
                              "last": 1},
        "sure_stretches": lambda: {"kinds": parity(), "number": 3},
        "scarce_row": lambda: {"kinds": parity(), "number": 2},
        "is_scarce_row": lambda: {"kinds": parity(), "number": 2, "value": ["odd", "odd"]},
    },
    "kindtwice.trees": {
        "is_tree": lambda: {"setting": setting(), "value": tree()},
        "log_of": lambda: {"setting": setting(), "tree": tree()},
        "kind_by": lambda: {"setting": setting(), "tree": tree()},
        "height_of": lambda: {"setting": setting(), "tree": tree()},
        "least_height": lambda: {"setting": setting(), "log": ["b", "b", "b"]},
        "least_tree": lambda: {"setting": setting(), "log": ["b", "b", "b"]},
        "is_least_tree": lambda: {"setting": setting(), "log": ["a", "b", "b"], "value": tree()},
        "bound_of": lambda: {"kinds": parity()},
        "low_tree": lambda: {"setting": setting(), "log": ["b", "b", "b"]},
        "is_low_tree": lambda: {"setting": setting(), "log": ["a", "b", "b"], "value": tree()},
        "pairs_alone": lambda: {"setting": setting(), "log": ["b", "b", "b"]},
        "heights": lambda: {"setting": setting(), "log": ["b", "a"]},
        "are_heights": lambda: {"setting": setting(), "log": ["b"], "value": {(0, 1): 0}},
        "greatest_height": lambda: {"kinds": parity(), "number": 3},
        "tall_row": lambda: {"kinds": parity(), "number": 2},
        "is_tall_row": lambda: {"kinds": parity(), "number": 2, "value": ["odd", "odd"]},
        "knots_of": lambda: {"setting": setting(), "tree": tree()},
        "opposite_tree": lambda: {"setting": setting(), "tree": tree()},
    },
    "kindtwice.looks": {
        "are_looks": lambda: {"setting": setting(), "tree": tree(), "first": 1, "last": 3,
                              "value": [(1, 2, "even"), (2, 3, "even")]},
        "least_looks": lambda: {"setting": setting(), "tree": tree(), "first": 0, "last": 2},
        "fewest_looks": lambda: {"setting": setting(), "tree": tree(), "first": 0, "last": 2},
        "are_least_looks": lambda: {"setting": setting(), "tree": tree(), "first": 1, "last": 3,
                                    "value": [(1, 3, "even")]},
        "most_looks": lambda: {"setting": setting(), "tree": tree()},
        "hardest_stretch": lambda: {"setting": setting(), "tree": tree()},
        "is_hardest_stretch": lambda: {"setting": setting(), "tree": tree(), "value": (0, 2)},
        "knots_with": lambda: {"setting": setting(), "tree": tree(), "place": 1},
        "fitting": lambda: {"setting": setting(), "tree": tree(), "place": 1},
        "with_deed": lambda: {"setting": setting(), "tree": tree(), "place": 0, "deed": "b"},
    },
    "kindtwice.doublings": {
        "doublings": lambda: {"setting": setting(), "log": ["a", "b"]},
        "halvings": lambda: {"setting": setting(), "log": ["a", "b", "b"]},
        "is_doubling": lambda: {"setting": setting(), "one": ["b"], "other": ["b", "b"]},
        "is_chain": lambda: {"setting": setting(), "one": ["b"], "other": ["b", "b"], "value": [["b"], ["b", "b"]]},
        "is_squeezed": lambda: {"setting": setting(), "log": ["b", "b"]},
        "squeezing": lambda: {"setting": setting(), "log": ["b", "b"]},
        "is_squeezing": lambda: {"setting": setting(), "log": ["b", "b"], "value": [["b", "b"], ["b"]]},
        "all_squeezed": lambda: {"setting": setting(), "log": ["b", "b", "b", "b"]},
        "fewest_halvings": lambda: {"setting": setting(), "log": ["b", "b", "b", "b"]},
        "most_halvings": lambda: {"setting": setting(), "log": ["b", "b", "b", "b"]},
        "stays": lambda: {"setting": setting(), "log": ["a", "b", "a"]},
    },
    "kindtwice.endless": {
        "is_endless": lambda: {"setting": endless()},
        "open_kinds": lambda: {"setting": endless()},
        "counting_deeds": lambda: {"setting": endless()},
        "counting_store": lambda: {"setting": endless(), "deed": "b", "number": 1},
        "closed": lambda: {"setting": endless()},
        "opened": lambda: {"setting": setting(), "kind": "even"},
    },
    "kindtwice.alike": {
        "is_plain": lambda: {"setting": setting()},
        "steps": lambda: {"setting": setting(), "log": ["a", "b"]},
        "whole_start": lambda: {"setting": setting(), "log": ["a", "b", "a", "a"]},
        "whole_end": lambda: {"setting": setting(), "log": ["a", "b", "a", "a"]},
        "are_alike": lambda: {"setting": setting(), "one": ["b"], "other": ["b", "b"]},
        "difference": lambda: {"setting": setting(), "one": [], "other": ["b"]},
        "is_difference": lambda: {"setting": setting(), "one": ["a"], "other": ["a", "a"],
                                  "value": (["ahead"], ("even", "a"))},
    },
    "kindtwice.stores": {
        "Store": lambda: {"moves": switch()},
        "behind": lambda: {"store": Store(switch()), "state": "on", "log": ["a"]},
        "behind_all": lambda: {"store": Store(switch()), "log": ["a"]},
        "is_typed": lambda: {"setting": setting(), "store": Store(switch())},
        "untyped": lambda: {"setting": setting(), "store": Store(switch())},
        "is_untyped": lambda: {"setting": single(), "store": Store(switch()), "value": (["a"], "on")},
        "least_untyped": lambda: {"setting": single(), "store": Store(switch())},
        "typed_kinds": lambda: {"setting": setting(), "store": Store(switch())},
        "same_in": lambda: {"store": Store(switch()), "one": ["a", "a"], "other": ["b"]},
        "parted_states": lambda: {"store": Store(switch()), "one": ["a"], "other": ["b"]},
        "both_stores": lambda: {"one": Store(switch()), "other": Store(switch())},
        "both_names": lambda: {"one": Store(switch()), "other": Store(switch())},
    },
    "kindtwice.small": {
        "least": lambda: {"setting": setting(), "log": ["b", "b", "a"]},
        "least_logs": lambda: {"setting": single()},
        "many_unlike": lambda: {"setting": setting()},
        "alike_logs": lambda: {"setting": setting(), "log": ["b", "a"], "number": 3},
        "coming_logs": lambda: {"setting": setting(), "log": ["a"]},
    },
    "kindtwice.telling": {
        "own_store": lambda: {"setting": single()},
        "own_names": lambda: {"setting": single()},
        "telling": lambda: {"setting": setting(), "one": ["a"], "other": ["b"]},
        "is_telling": lambda: {"setting": setting(), "one": ["a"], "other": ["b"], "value": (Store(switch()), "on")},
        "least_states": lambda: {"setting": single(), "one": [], "other": ["a"]},
    },
    "kindtwice.marks": {
        "are_marks": lambda: {"log": ["x", "y"], "value": [0, 2]},
        "is_covered": lambda: {"setting": setting(), "log": ["b", "a"], "marks": [0, 2]},
        "open_points": lambda: {"setting": setting(), "log": ["b", "a"], "marks": [0]},
        "reach": lambda: {"setting": setting(), "log": ["b", "a"], "point": 0},
        "fewest_marks": lambda: {"setting": setting(), "log": ["b", "a"]},
        "any_marks": lambda: {"setting": setting(), "log": ["b", "a"]},
        "are_fewest": lambda: {"setting": setting(), "log": ["b", "a"], "value": [0, 2]},
        "bounds": lambda: {"setting": setting(), "log": ["b", "a"]},
        "are_bounds": lambda: {"setting": setting(), "log": ["b"], "value": {0: 0, 1: 1, 2: 1}},
        "many_fewest": lambda: {"setting": setting(), "log": ["b", "a"]},
        "marks_at": lambda: {"setting": setting(), "log": ["b", "a"], "number": 0},
        "sure_marks": lambda: {"setting": setting(), "log": ["b", "a"]},
    },
    "kindtwice.falls": {
        "is_day": lambda: {"log": ["x", "y"], "marks": [0, 2], "value": [1, 2]},
        "begins": lambda: {"log": ["x", "y"], "marks": [0, 2], "falls": [1, 2]},
        "done_log": lambda: {"log": ["x", "y"], "marks": [0, 2], "falls": [1, 2]},
        "many_done": lambda: {"log": ["x", "y"], "marks": [0, 2], "falls": [1, 2]},
        "chain_back": lambda: {"setting": setting(), "log": ["b", "a"], "marks": [0, 2], "falls": [1, 2]},
        "is_chain_back": lambda: {"setting": setting(), "log": ["b", "a"], "marks": [0, 2], "falls": [1, 2],
                                  "value": [["b", "b", "a"], ["b", "a"]]},
        "harmful_falls": lambda: {"setting": setting(), "log": ["b", "a"], "marks": [0]},
        "is_harmless": lambda: {"setting": setting(), "log": ["b", "a"], "marks": [0]},
        "many_days": lambda: {"log": ["x", "y"], "marks": [0, 1], "number": 2},
        "costliest": lambda: {"log": ["x", "y"], "marks": [0], "number": 2},
        "is_costliest": lambda: {"log": ["x", "y"], "marks": [0], "number": 2, "value": [2, 2]},
    },
    "kindtwice.papers": {
        "kinds_text": lambda: {"kinds": Kinds(dict(ONE))},
        "read_kinds": lambda: {"text": "k k = k"},
        "setting_text": lambda: {"setting": single()},
        "read_setting": lambda: {"text": "k k = k\ndeeds\na k\nb k\ntwice k"},
        "logs_text": lambda: {"logs": [["a", "b"], []]},
        "read_logs": lambda: {"text": "a b\n-"},
    },
    "kindtwice.desk": {
        "Desk": lambda: {"setting": setting()},
        "replayed": lambda: {"desk": busy(), "record": [("fall",), ("do", "b")]},
    },
    "kindtwice.scripts": {
        "play": lambda: {"desk": busy(), "script": [("try", [("undo",), ("do", "b"), ("mark",)])]},
        "script_text": lambda: {"script": [("do", "a"), ("try", [("mark",)])]},
        "read_script": lambda: {"text": "do a\ntry\n  mark\nend"},
        "end_of": lambda: {"setting": setting(), "script": [("do", "a"), ("fall",), ("mark",)]},
        "needless": lambda: {"setting": setting(), "script": [("do", "a"), ("fall",), ("mark",)]},
    },
}
WANTED = {
    "put_all": "odd", "own_squares": ["even"], "power": "odd", "own_power": 2, "coming_back": (1, 2), "is_bare": True,
    "bare_rows": [["odd"]], "most_bare": 1, "longest_bare": ["odd"], "is_longest_bare": True, "is_log": True,
    "kind_of": "odd", "kind_between": "odd", "many_by_kind": {"even": 1, "odd": 2}, "redo_points": [1],
    "may_redo": True, "is_row": True, "most_stretches": 2, "longest_row": ("even", [0, 1, 2]), "is_longest_row": True,
    "most_by_kind": {"even": 2}, "shortened": ["b"], "sure_stretches": 1, "is_scarce_row": True, "is_tree": True,
    "log_of": ["a", "b", "b"], "kind_by": "odd", "height_of": 2, "least_height": 1,
    "least_tree": ("run", "even", ["b", "b", "b"]), "is_least_tree": True, "bound_of": 5, "is_low_tree": True,
    "pairs_alone": 2, "heights": {(0, 1): 0, (0, 2): 1, (1, 2): 0}, "are_heights": True, "greatest_height": 2,
    "is_tall_row": True, "knots_of": [(0, 3, 2), (0, 1, 0), (1, 3, 1), (1, 2, 0), (2, 3, 0)],
    "opposite_tree": ("pair", ("run", "even", ["b", "b"]), "a"), "are_looks": True,
    "least_looks": [(0, 1, "odd"), (1, 2, "even")], "fewest_looks": 2, "are_least_looks": True, "most_looks": 2,
    "hardest_stretch": (0, 2), "is_hardest_stretch": True, "knots_with": [(0, 3, 2), (1, 3, 1), (1, 2, 0)],
    "fitting": ["b"], "with_deed": ("pair", "b", ("run", "even", ["b", "b"])), "doublings": [["a", "b", "b"]],
    "halvings": [["a", "b"]], "is_doubling": True, "is_chain": True, "is_squeezed": False,
    "squeezing": [["b", "b"], ["b"]], "is_squeezing": True, "all_squeezed": [["b"]], "fewest_halvings": 2,
    "most_halvings": 3, "stays": ("even", ["a", "b"], ["a", "b"]), "is_endless": True,
    "open_kinds": ["even"], "counting_deeds": ["b"], "is_plain": True, "steps": [("even", "a"), ("odd", "b")],
    "whole_start": 3, "whole_end": 3, "are_alike": True, "difference": ([], ("even", "b")), "is_difference": True,
    "behind": "off", "behind_all": {"off": "on", "on": "off"}, "is_typed": True, "untyped": None, "is_untyped": True,
    "least_untyped": 1, "typed_kinds": ["even"], "same_in": True, "parted_states": ["off", "on"],
    "both_names": {"a": ("off", "off"), "b": ("off", "on"), "c": ("on", "off"), "d": ("on", "on")},
    "least": ["b", "a"], "least_logs": [["a"], ["b"], ["a", "b"], ["b", "a"], ["a", "b", "a"], ["b", "a", "b"]],
    "many_unlike": 185, "alike_logs": [["b", "a"], ["b", "b", "a"]], "coming_logs": (2, 2),
    "own_names": {"a": [], "b": ["a"], "c": ["b"], "d": ["a", "b"], "e": ["b", "a"], "f": ["a", "b", "a"],
                  "g": ["b", "a", "b"]},
    "is_telling": True, "least_states": [[], ["b"], ["a", "b"], ["b", "a", "b"]], "are_marks": True,
    "is_covered": True, "open_points": [(0, 2)], "reach": 2, "fewest_marks": 2, "any_marks": [0, 2],
    "are_fewest": True, "bounds": {0: 0, 1: 1, 2: 1, 3: 2}, "are_bounds": True, "many_fewest": 1, "marks_at": [0, 2],
    "sure_marks": [0, 2], "is_day": True, "begins": [0, 2], "done_log": ["x", "x", "y"], "many_done": 3,
    "chain_back": [["b", "b", "a"], ["b", "a"]], "is_chain_back": True, "harmful_falls": [2], "is_harmless": False,
    "many_days": 7, "costliest": [2, 2], "is_costliest": True, "kinds_text": "k k = k",
    "setting_text": "k k = k\ndeeds\na k\nb k\ntwice k", "logs_text": "a b\n-", "read_logs": [["a", "b"], []],
    "play": [("tried", [("told", None), ("told", None), ("refused", "Refused")])],
    "script_text": "do a\ntry\n  mark\nend", "read_script": [("do", "a"), ("try", [("mark",)])],
    "end_of": (["a"], [0], [1]), "needless": [2],
}
# The error of each argument, wherever it stands; `value` is judged.
ERRORS = {"table": InvalidTable, "kinds": InvalidKinds, "row": InvalidKinds, "kind": InvalidKind,
          "number": InvalidCount, "deeds": InvalidDeeds, "twice": InvalidTwice, "setting": InvalidSetting,
          "log": InvalidLog, "first": InvalidPlace, "last": InvalidPlace, "sent": InvalidMap, "tree": InvalidTree,
          "place": InvalidPlace, "deed": InvalidDeed,
          ("shortened", "row"): InvalidRow, "one": InvalidLog, "other": InvalidLog, "moves": InvalidMoves,
          "store": InvalidStore, "state": InvalidState, ("both_stores", "one"): InvalidStore,
          ("both_stores", "other"): InvalidStore, ("both_names", "one"): InvalidStore,
          ("both_names", "other"): InvalidStore, "marks": InvalidMarks, "point": InvalidPlace, "falls": InvalidFalls,
          "text": InvalidText, "logs": InvalidLogs, "desk": InvalidDesk, "record": InvalidRecord,
          "script": InvalidScript}
# The empty list has a text, and a list of an empty log is one of logs.
RIGHT_ONES = [("read_logs", ""), ("read_script", ""), ("logs_text", [[]])]


def error_of(function, argument):
    return ERRORS.get((function, argument), ERRORS[argument])


def all_functions():
    for module, functions in FUNCTIONS.items():
        for name, made in functions.items():
            yield module, name, getattr(importlib.import_module(module), name), made


def nested(depth):
    """A list in a tuple in a dictionary in a list .., so deep."""
    value = "even"
    for at in range(depth):
        value = [[value], (value,), {"even": value}][at % 3]
    return value


class Interface(unittest.TestCase):
    def test_each_is_defined_under_its_module(self):
        for module, name, function, _ in all_functions():
            self.assertIsInstance(function, (types.FunctionType, type))
            self.assertEqual((function.__module__, function.__name__), (module, name))

    def test_methods_stand_in_the_class_itself(self):
        for (module, name), methods in METHODS.items():
            made = getattr(importlib.import_module(module), name)
            for method, names in methods.items():
                self.assertIn(method, vars(made))
                self.assertEqual(list(inspect.signature(getattr(made, method)).parameters)[1:], names)
            self.assertEqual("__eq__" in vars(made), name not in WITHOUT_EQUALS)

    def test_arguments_have_the_names_of_the_interface_in_its_order(self):
        for _, name, function, made in all_functions():
            self.assertEqual(list(inspect.signature(function).parameters), list(made()), name)


class Calls(Case):
    def test_by_position_and_by_name(self):
        for _, name, function, made in all_functions():
            args = made()
            by_position = self.told(function, *args.values())
            self.same(self.told(function, **args), by_position)
            self.same(self.told(function, **{key: args[key] for key in reversed(args)}), by_position)
            if name in WANTED:
                self.same(by_position, WANTED[name])

    def test_equal_arguments_equal_results(self):
        for _, _, function, made in all_functions():
            self.same(function(**made()), function(**made()))

    def test_results_do_not_change_with_what_was_passed(self):
        for _, _, function, made in all_functions():
            args = made()
            result = function(*args.values())
            picture = strict(result)
            wreck(list(args.values()))
            self.assertEqual(strict(result), picture)

    def test_wrong_arguments_deep_and_shallow(self):
        for _, called, function, made in all_functions():
            for name in made():
                for value in [nested(depth) for depth in (1, 2, 3, 20, 40)]:
                    args = made()
                    args[name] = value
                    if name == "value":
                        self.tells(False, function, **args)
                    elif strict(value) != strict(["even"]):
                        self.raises(error_of(called, name), value, function, **args)

    def test_all_arguments_wrong_from_one_on(self):
        for _, called, function, made in all_functions():
            names = list(made())
            for at, name in enumerate(names):
                if name == "value":
                    continue
                for wrong in (None, True, False, -1, "", (), {None: 0}, [[]], ["Odd"]):
                    if (called, wrong) in RIGHT_ONES:
                        continue
                    args = made()
                    for later in names[at:]:
                        args[later] = wrong
                    self.raises(error_of(called, name), wrong, function, *args.values())
                    self.raises(error_of(called, name), wrong, function, **args)

    def test_a_refusal_comes_behind_all_other_errors(self):
        self.raises(InvalidSetting, None, kind_of, None, [])
        empty = []
        self.raises(Refused, empty, kind_of, setting(), empty)

    def test_a_call_that_raises_changes_nothing(self):
        made = setting()
        for _ in range(3):
            with self.assertRaises(InvalidLog):
                kind_of(made, ["a", "c"])
            with self.assertRaises(InvalidTwice):
                Setting(made.kinds(), made.deeds(), ["odd"])
            with self.assertRaises(InvalidKind):
                made.kinds().put("odd", "c")
        self.same(made, setting())
        self.assertEqual(made, setting())


class Limits(Case):
    """[3]: results at the limits come, and beyond them no error is raised for this alone."""

    def test_four_kinds_six_deeds_sixty_deeds(self):
        kinds = Kinds(LONG)
        words = words_of(LONG)
        made = Setting(kinds, dict(zip(["a", "bb", "abcdefgh", "d", "e", "f"], words + words)), ["a"])
        self.assertEqual(len(made.deeds()), 6)
        log = (["f", "e", "d", "abcdefgh", "bb"] * 12)[:60]
        self.tells(True, is_log, made, log)
        row = [made.deeds()[deed] for deed in log]
        ends = {point: put_together(LONG, row[point:]) for point in range(60)}
        self.tells(ends[0], kind_of, made, log)
        self.tells("b", kind_between, made, log, 59, 60)
        self.tells(False, may_redo, made, log, 59, 60)
        self.tells(ends[0] == "a", may_redo, made, log, 0, 60)
        self.tells([point for point in ends if ends[point] == "a"], redo_points, made, log)
        self.assertEqual(sum(many_by_kind(made, log).values()), 1830)
        self.same(renamed(made, dict(zip(made.deeds(), "zyxwvu"))).deeds(),
                  {"u": "b", "v": "a", "w": "d", "x": "b", "y": "c", "z": "a"})

    def test_rows_and_numbers(self):
        kinds = Kinds(LONG)
        self.tells("a", put_all, kinds, ["c", "d"] * 30)
        self.tells(False, is_bare, kinds, ["c", "d"] * 30)
        self.tells([], bare_rows, kinds, 60)
        self.tells(["c", "c", "d", "c", "c"], longest_bare, kinds)
        self.tells(5, most_bare, kinds)
        self.tells(False, is_longest_bare, kinds, ["c", "d"] * 30)
        self.tells("z", power, Kinds(once_again(2, 3)), "q", 10 ** 30 - 1 - (10 ** 30 - 1) % 3 + 1)

    def test_beyond(self):
        words = ["a", "b", "c", "d", "e", "f"]
        kinds = Kinds({(one, other): max(one, other) for one in words for other in words})
        made = Setting(kinds, {"x" + word: word for word in words} | {"y": "a", "z": "f"}, words)
        log = ["xa", "xc", "xb"] * 100
        self.tells("c", kind_of, made, log)
        self.tells(list(range(300)), redo_points, made, log)
        self.assertEqual(sum(many_by_kind(made, log).values()), 300 * 301 // 2)
        self.tells("k", put_all, Kinds(ONE), ["k"] * 300)
        self.tells([], bare_rows, Kinds(PARITY), 10 ** 30)
        self.tells("odd", power, Kinds(PARITY), "odd", 10 ** 40 + 1)


if __name__ == "__main__":
    unittest.main()
