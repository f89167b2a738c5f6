"""[47] to [51]: stores, what is typed, and two stores together."""

import random
import unittest

from kindtwice.endless import counting_store
from kindtwice.errors import InvalidLog, InvalidMoves, InvalidSetting, InvalidState, InvalidStore, Unlike
from kindtwice.kinds import Kinds
from kindtwice.settings import Setting, kind_of, with_twice
from kindtwice.stores import (Store, behind, behind_all, both_names, both_stores, is_typed, is_untyped,
                              least_untyped, parted_states, same_in, typed_kinds, untyped)
from tests.helping import (CHAIN, CORNERS, FIRST_STAYS, LONG, MANY_TABLES, ONE, PARITY, SETTING, Case, no_logs,
                           no_settings, no_stores, odd_objects, rows_of, some_setting, strict, subsets, turned, wreck)
from tests.plain import breaking_ways, squares_of, ways_through

SWITCH = {"off": {"a": "on", "b": "off"}, "on": {"a": "off", "b": "on"}}
SLIDE = {"one": {"a": "two", "b": "two"}, "three": {"a": "three", "b": "one"}, "two": {"a": "three", "b": "two"}}
AROUND = {"x": {"a": "y", "b": "x"}, "y": {"a": "z", "b": "y"}, "z": {"a": "x", "b": "z"}}
NO_MOVES = [
    {}, {"on": {}}, {"on": {"a": "on"}, "off": {}}, {"on": {"a": "on"}, "off": {"b": "on"}},
    {"on": {"a": "on", "b": "on"}, "off": {"a": "on"}}, {"off": {"a": "on"}, "on": {"a": "on", "b": "on"}},
    {"on": {"a": "off"}}, {"on": {"a": "a"}}, {"on": {"a": None}}, {"on": {"a": ["on"]}}, {"on": {"a": True}},
    {"on": {"a": {"on": 1}}}, {"on": None}, {"on": []}, {"on": [("a", "on")]}, {"on": "a"}, {"on": ("a", "on")},
    {"on": {"a": "on"}, "off": None}, {"on": {"a": "on"}, "off": ["a"]}, {"On": {"a": "On"}}, {"": {"a": ""}},
    {"abcdefghi": {"a": "abcdefghi"}}, {1: {"a": 1}}, {None: {"a": None}}, {True: {"a": True}},
    {("on",): {"a": ("on",)}}, {"on": {"A": "on"}}, {"on": {"": "on"}}, {"on": {0: "on"}}, {"on": {None: "on"}},
    {"on": {("a",): "on"}},
    {"on": {"abcdefghi": "on"}}, {"on": {"a": "on", 1: "on"}}, {"on": {"a": "on"}, 1: {"a": "on"}},
    [("on", {"a": "on"})], ["on"], "on", ("on",), {"on": {"a": "on"}, "off": {"a": "off", "b": "off", "c": "off"}},
    {"on": {"a": Kinds(ONE)}}, {"on": Store({"on": {"a": "on"}})}, {"on": {"a": "on "}}, {"on": {"a": ""}},
]


def chance_moves(many, deeds, seed):
    """Moves of a store of so many states, as if by chance, the same each time."""
    chance = random.Random(seed)
    states = ["s" + letter for letter in "abcdefghijklmnop"[:many]]
    return {state: {deed: chance.choice(states) for deed in deeds} for state in states}


def led(moves, state, log):
    for deed in log:
        state = moves[state][deed]
    return state


class Made(Case):
    """[47]: Store."""

    def test_it_tells_what_it_was_made_of(self):
        for moves in (SWITCH, SLIDE, {"on": {"a": "on"}}, chance_moves(12, "abcdef", 1), chance_moves(3, "ba", 2)):
            for passed in (moves, turned({state: turned(moves[state]) for state in moves})):
                store = Store(passed)
                wanted = {state: {deed: moves[state][deed] for deed in sorted(moves[state])} for state in sorted(moves)}
                self.tells(wanted, store.moves)
                self.tells(sorted(moves), store.states)
                self.tells(sorted(list(moves.values())[0]), store.deeds)
        self.same(Store(moves=SWITCH).moves(), SWITCH)

    def test_states_may_be_called_like_deeds(self):
        moves = {"a": {"a": "b", "b": "a"}, "b": {"a": "b", "b": "a"}}
        self.tells(moves, Store(moves).moves)

    def test_what_was_passed_or_returned_may_be_changed(self):
        moves = {state: dict(SWITCH[state]) for state in SWITCH}
        store = Store(moves)
        wreck(moves)
        for told in (store.moves(), store.states(), store.deeds()):
            wreck(told)
        store.moves()["off"]["a"] = "off"
        self.same(store.moves(), SWITCH)
        self.same([store.states(), store.deeds()], [["off", "on"], ["a", "b"]])

    def test_moves_that_are_none(self):
        for moves in odd_objects() + NO_MOVES:
            self.raises(InvalidMoves, moves, Store, moves)
            self.raises(InvalidMoves, moves, Store, moves=moves)

    def test_a_deed_left_out_or_a_state_that_is_none_anywhere(self):
        for moves in (SWITCH, SLIDE, chance_moves(4, "abc", 5)):
            for state in moves:
                for deed in moves[state]:
                    fewer = {one: dict(moves[one]) for one in moves}
                    del fewer[state][deed]
                    self.raises(InvalidMoves, fewer, Store, fewer)
                    for wrong in ("none", None, "", 0, True, [state], (state,), deed, {state: 1}):
                        other = {one: dict(moves[one]) for one in moves}
                        other[state][deed] = wrong
                        self.raises(InvalidMoves, other, Store, other)
                for wrong in (None, {}, [], "a", {"a": state}, dict(moves[state], more=state)):
                    other = {**moves, state: wrong}
                    self.raises(InvalidMoves, other, Store, other)

    def test_equality(self):
        def made():
            return [Store(SWITCH), Store(SLIDE), Store({"on": {"a": "on"}}), Store({"on": {"b": "on"}}),
                    Store({"off": {"a": "off"}}), Store({**SWITCH, "on": {"a": "on", "b": "on"}}),
                    Store({"off": {"a": "off", "b": "off"}, "on": {"a": "on", "b": "on"}})]

        for at, one in enumerate(made()):
            for place, other in enumerate(made()):
                self.assertIs(one == other, at == place)
                self.assertIs(one != other, at != place)
        self.assertTrue(Store(SLIDE) == Store(turned(SLIDE)))

    def test_never_equal_to_an_object_of_another_class(self):
        store = Store(SWITCH)
        for other in odd_objects() + [dict(SWITCH), [SWITCH], SETTING, Kinds(ONE)]:
            self.assertIs(store == other, False)
            self.assertIs(other == store, False)
            self.assertIs(store != other, True)


class Behind(Case):
    """[48]: behind, behind_all; [50]: same_in, parted_states."""

    def test_short_and_long_logs(self):
        for moves in (SWITCH, SLIDE, chance_moves(5, "ab", 1), chance_moves(12, "ab", 2)):
            store = Store(moves)
            logs = [log for number in range(4) for log in rows_of("ab", number)] + [["a", "b", "b"] * 20]
            for log in logs:
                wanted = {state: led(moves, state, log) for state in sorted(moves)}
                self.tells(wanted, behind_all, store, log)
                for state in moves:
                    self.same(behind(store, state, log), wanted[state])
                for other in logs[::3]:
                    parted = [state for state in sorted(moves) if led(moves, state, other) != wanted[state]]
                    self.same(parted_states(store, log, other), parted)
                    self.same(same_in(store, log, other), parted == [])

    def test_each_call_again(self):
        store = Store(SWITCH)
        self.tells("on", behind, log=["a", "b"], state="off", store=store)
        self.tells({"off": "on", "on": "off"}, behind_all, log=["a"], store=store)
        self.tells(["off", "on"], parted_states, other=[], one=["a"], store=store)
        self.tells([], parted_states, store, ["a", "a"], ["b"])
        self.tells(True, same_in, store, ["a", "a"], [])
        self.tells(False, same_in, other=["a"], one=["b"], store=store)
        self.tells(["one"], parted_states, Store(SLIDE), ["a", "a"], ["a"])

    def test_the_empty_log(self):
        for moves in (SWITCH, SLIDE):
            self.tells({state: state for state in sorted(moves)}, behind_all, Store(moves), [])
            for state in moves:
                self.tells(state, behind, Store(moves), state, [])
            self.tells(True, same_in, Store(moves), [], [])

    def test_wrong_ones(self):
        store = Store(SWITCH)
        states = odd_objects() + ["a", "of", ["on"], ("on",), {"on": 1}, "ON"]
        wrong = {"store": (InvalidStore, no_stores()), "state": (InvalidState, states[::2]),
                 "log": (InvalidLog, no_logs()[::2])}
        self.wrong_one_by_one(behind, {"store": store, "state": "on", "log": ["a"]}, wrong)
        self.wrong_one_by_one(behind_all, {"store": store, "log": ["a"]}, wrong)
        for state in states:
            self.raises(InvalidState, state, behind, store, state, [])
        for log in no_logs():
            self.raises(InvalidLog, log, behind, store, "on", log)
            self.raises(InvalidLog, log, behind_all, store, log)
        wrong = {"store": (InvalidStore, no_stores()[::4]), "one": (InvalidLog, no_logs()[::2]),
                 "other": (InvalidLog, no_logs()[::2])}
        for function in (same_in, parted_states):
            self.wrong_one_by_one(function, {"store": store, "one": ["a"], "other": ["b"]}, wrong)


class Typed(Case):
    """[49]: is_typed, untyped, is_untyped, least_untyped, typed_kinds."""

    def check(self, setting, moves):
        store = Store(moves)
        least = breaking_ways(setting, moves)
        squares = squares_of(setting.kinds().table())
        kinds = [kind for kind in squares if kind not in least]
        self.same(typed_kinds(setting, store), kinds)
        lengths = [least[kind] for kind in setting.twice() if kind in least]
        self.same(is_typed(setting, store), lengths == [])
        self.same(least_untyped(setting, store), min(lengths, default=None))
        told = untyped(setting, store)
        if not lengths:
            self.assertIsNone(told)
        else:
            log, state = told
            self.assertIn(kind_of(setting, log), setting.twice())
            self.assertNotEqual(led(moves, state, log + log), led(moves, state, log))
        self.same(is_untyped(setting, store, told), bool(lengths))
        return store

    def test_chance_stores(self):
        for table in MANY_TABLES:
            for twice in subsets(squares_of(table)):
                setting = with_twice(some_setting(table), twice)
                deeds = list(setting.deeds())
                for seed in range(4):
                    self.check(setting, chance_moves(1 + seed % 4, deeds, seed))

    def ordered_moves(self, many, deeds, seed):
        """Moves that never lead back: many stores of these are typed."""
        chance = random.Random(seed)
        states = ["s" + letter for letter in "abcdefghijklmnop"[:many]]
        return {state: {deed: states[min(many - 1, at + chance.choice([0, 0, 1]))] for deed in deeds}
                for at, state in enumerate(states)}

    def test_typed_ones_and_others(self):
        many = {True: 0, False: 0}
        for table in MANY_TABLES:
            for twice in subsets(squares_of(table))[:6]:
                setting = with_twice(some_setting(table), twice)
                for seed in range(6):
                    store = self.check(setting, self.ordered_moves(2 + seed % 3, list(setting.deeds()), seed))
                    many[is_typed(setting, store)] += 1
        self.assertGreater(min(many.values()), 30)

    def test_all_stores_of_two_states(self):
        for setting in (SETTING, with_twice(SETTING, []), Setting(Kinds(FIRST_STAYS), dict(zip("pqr", "abc")), ["b"])):
            deeds = list(setting.deeds())
            for row in rows_of(["x", "y"], 2 * len(deeds)):
                self.check(setting, {"x": dict(zip(deeds, row)), "y": dict(zip(deeds, row[len(deeds):]))})

    def test_all_logs_and_states_are_judged(self):
        for table in (PARITY, ONE, CHAIN, LONG):
            setting = some_setting(table)
            deeds = list(setting.deeds())[:2]
            for seed in range(3):
                moves = chance_moves(3, list(setting.deeds()), seed)
                for log in [log for number in range(4) for log in rows_of(deeds, number)]:
                    for state in moves:
                        wanted = bool(log) and kind_of(setting, log) in setting.twice() and (
                            led(moves, state, log) != led(moves, state, log + log))
                        self.same(is_untyped(setting, Store(moves), (log, state)), wanted)
                        self.same(is_untyped(setting, Store(moves), [log, state]), False)

    def test_by_hand(self):
        one = Setting(Kinds(ONE), {"a": "k", "b": "k"}, ["k"])
        self.tells(False, is_typed, one, Store(SWITCH))
        self.tells(1, least_untyped, store=Store(SWITCH), setting=one)
        self.tells(True, is_typed, SETTING, Store(SWITCH))
        self.tells(None, untyped, store=Store(SWITCH), setting=SETTING)
        self.tells(None, least_untyped, SETTING, Store(SWITCH))
        self.tells(["even"], typed_kinds, store=Store(SWITCH), setting=with_twice(SETTING, []))
        self.tells([], typed_kinds, one, Store(SWITCH))
        self.tells(True, is_untyped, value=(["a"], "on"), store=Store(SWITCH), setting=one)
        self.tells(False, is_untyped, one, Store(SWITCH), (["b"], "on"))
        self.tells(True, is_typed, with_twice(one, []), Store(SWITCH))
        ladder = Store({"v": {"a": "w", "b": "v"}, "w": {"a": "x", "b": "w"}, "x": {"a": "y", "b": "x"},
                        "y": {"a": "y", "b": "y"}})
        self.tells(2, least_untyped, SETTING, ladder)
        self.tells(True, is_untyped, SETTING, ladder, untyped(SETTING, ladder))
        self.tells(2, least_untyped, SETTING, Store(AROUND))
        self.tells([], typed_kinds, SETTING, Store(AROUND))

    def test_the_shortest_log_may_be_long(self):
        states = ["s" + letter for letter in "abcdefghijkl"]
        for many in (2, 5, 12):
            moves = {state: {"a": states[(at + 1) % many], "b": state} for at, state in enumerate(states[:many])}
            table = {(one, other): min(one, other) for one in ("sun", "zen") for other in ("sun", "zen")}
            setting = Setting(Kinds(table), {"a": "sun", "b": "zen"}, ["sun"])
            self.check(setting, moves)
            self.tells(1, least_untyped, setting, Store(moves))
        ends = {state: {"a": states[min(at + 1, 11)], "b": states[0]} for at, state in enumerate(states)}
        for setting in (SETTING, with_twice(SETTING, [])):
            store = Store(ends)
            told = self.told(untyped, setting, store)
            self.tells(told is None, is_typed, setting, store)
            self.tells(told is not None, is_untyped, setting, store, told)

    def long_store(self):
        """A store in which a counts up to its end: only many of it, then b, lead elsewhere."""
        states = ["s" + letter for letter in "abcdefghijkl"]
        return {state: {"a": states[min(at + 1, 11)], "b": "sl" if at < 10 else "sa"}
                for at, state in enumerate(states)}

    def test_the_shortest_log_against_all_ways(self):
        moves = self.long_store()
        for setting in (SETTING, Setting(Kinds(ONE), {"a": "k", "b": "k"}, ["k"]),
                        Setting(Kinds(dict(PARITY)), {"a": "even", "b": "odd"}, ["even"])):
            self.check(setting, moves)
        for table in (PARITY, CORNERS, LONG):
            setting = some_setting(table)
            self.check(setting, chance_moves(4, list(setting.deeds()), 11))

    def test_twelve_and_thirteen_states(self):
        for table in MANY_TABLES:
            setting = some_setting(table)
            deeds = list(setting.deeds())
            for many in (12, 13):
                store = Store(chance_moves(many, deeds, many))
                told = self.told(untyped, setting, store)
                self.tells(told is None, is_typed, setting, store)
                self.tells(told is not None, is_untyped, setting, store, told)
                kinds = self.told(typed_kinds, setting, store)
                self.assertEqual(told is None, all(kind in kinds for kind in setting.twice()))
                if told is not None:
                    self.assertLessEqual(self.told(least_untyped, setting, store), len(told[0]))

    def test_a_long_log_returned_is_judged_again(self):
        store = counting_store(with_twice(SETTING, []), "b", 10)
        self.tells(True, is_typed, with_twice(SETTING, []), store)
        told = self.told(untyped, SETTING, store)
        self.tells(True, is_untyped, SETTING, store, told)
        self.tells(True, is_untyped, SETTING, Store(SLIDE), untyped(SETTING, Store(SLIDE)))
        around = Store(AROUND)
        self.tells(True, is_untyped, SETTING, around, (["b"] * 599 + ["a", "a"], "x"))
        self.tells(False, is_untyped, SETTING, around, (["b"] * 600, "x"))
        self.tells(False, is_untyped, SETTING, around, (["b"] * 599 + ["a"], "x"))

    def test_ways_of_a_typed_store_lead_to_the_same_twice(self):
        setting = SETTING
        for (kind, states), log in ways_through(setting, SWITCH).items():
            if kind in setting.twice():
                self.assertEqual([led(SWITCH, state, log) for state in states], list(states))

    def test_deeds_other_than_the_settings(self):
        for store in (Store({"on": {"a": "on"}}), Store({"on": {"a": "on", "b": "on", "c": "on"}}),
                      Store({"on": {"a": "on", "c": "on"}}), Store({"on": {"x": "on"}})):
            for function in (is_typed, untyped, least_untyped, typed_kinds):
                self.raises(Unlike, store, function, SETTING, store)
                self.raises(Unlike, store, function, store=store, setting=with_twice(SETTING, []))
            for value in (None, (["b"], "on"), [], (["a"], "on")):
                self.raises(Unlike, store, is_untyped, SETTING, store, value)

    def test_any_object_is_judged(self):
        one = Setting(Kinds(ONE), {"a": "k", "b": "k"}, ["k"])
        store = Store(SWITCH)
        for value in odd_objects() + [(["a"],), (["a"], "on", 1), [["a"], "on"], ("a", "on"), (("a",), "on"),
                                      ([], "on"), (["a"], "none"), (["a"], None), (["a"], ["on"]), (["c"], "on"),
                                      (None, "on"),
                                      ([["a"]], "on"), (["a", None], "on"), (["a"], store), (store, "on"),
                                      (["a"], {"on": 1}), ({"a": 1}, "on"), (["a"], True), ("on", ["a"])]:
            self.tells(False, is_untyped, one, store, value)
            self.tells(False, is_untyped, value=value, store=store, setting=SETTING)
        self.tells(True, is_untyped, one, store, (["a"], "on"))

    def test_wrong_ones(self):
        wrong = {"setting": (InvalidSetting, no_settings()), "store": (InvalidStore, no_stores())}
        for function in (is_typed, untyped, least_untyped, typed_kinds):
            self.wrong_one_by_one(function, {"setting": SETTING, "store": Store(SWITCH)}, wrong)
        for value in ((["b"], "on"), None):
            good = {"setting": SETTING, "store": Store(SWITCH), "value": value}
            self.wrong_one_by_one(is_untyped, good, wrong)


class Both(Case):
    """[51]: both_stores, both_names."""

    def check(self, one, other):
        letters = "abcdefghijklmnopqrstuvwxyz"
        words = list(letters) + [first + second for first in letters for second in letters]
        pairs = [(state, beside) for state in sorted(one) for beside in sorted(other)]
        names = dict(zip(words, pairs))
        self.tells(names, both_names, Store(one), Store(other))
        back = {pair: word for word, pair in names.items()}
        store = self.told(both_stores, Store(one), Store(other))
        self.same(store.moves(), {
            word: {deed: back[(one[names[word][0]][deed], other[names[word][1]][deed])]
                   for deed in sorted(one[names[word][0]])} for word in sorted(names)})
        return store

    def test_small_and_great_ones(self):
        for one, other in [(SWITCH, SWITCH), (SWITCH, SLIDE), (SLIDE, SWITCH), (SLIDE, SLIDE),
                           ({"on": {"a": "on", "b": "on"}}, SLIDE), (chance_moves(9, "ab", 1), SLIDE),
                           (chance_moves(5, "ab", 1), chance_moves(6, "ab", 2)),
                           (chance_moves(12, "abcdef", 3), chance_moves(12, "abcdef", 4))]:
            store = self.check(one, other)
            self.assertEqual(len(store.states()), len(one) * len(other))

    def test_more_than_the_letters(self):
        names = both_names(other=Store(chance_moves(12, "ab", 1)), one=Store(chance_moves(12, "ab", 2)))
        self.assertEqual(list(names)[25:28] + list(names)[-1:], ["z", "aa", "ab", "en"])
        self.assertEqual(names["z"], ("sc", "sb"))

    def test_typed_exactly_if_both_are(self):
        for table in (PARITY, ONE, CHAIN, CORNERS):
            setting = some_setting(table)
            deeds = list(setting.deeds())
            stores = [Store(chance_moves(3, deeds, seed)) for seed in range(3)]
            stores += [Store({"x": {deed: "y" for deed in deeds}, "y": {deed: "y" for deed in deeds}}),
                       Store({"x": {deed: "x" for deed in deeds}})]
            for one in stores:
                for other in stores:
                    both = is_typed(setting, one) and is_typed(setting, other)
                    self.same(is_typed(setting, both_stores(one, other)), both)

    def test_unlike(self):
        for other in (Store({"on": {"a": "on"}}), Store({"on": {"a": "on", "b": "on", "c": "on"}}),
                      Store({"on": {"b": "on", "c": "on"}})):
            for function in (both_stores, both_names):
                self.raises(Unlike, other, function, Store(SWITCH), other)
                self.raises(Unlike, other, function, other=other, one=Store(SLIDE))

    def test_what_was_returned_may_be_changed(self):
        one = Store(SWITCH)
        picture = strict(both_stores(one, one))
        wreck(both_names(one, one))
        wreck(both_stores(one, one).moves())
        self.assertEqual(strict(both_stores(one, one)), picture)

    def test_wrong_ones(self):
        wrong = {"one": (InvalidStore, no_stores()), "other": (InvalidStore, no_stores())}
        for function in (both_stores, both_names):
            self.wrong_one_by_one(function, {"one": Store(SWITCH), "other": Store(SLIDE)}, wrong)


if __name__ == "__main__":
    unittest.main()
