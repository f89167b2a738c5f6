"""[52] to [54]: the store that tells all unlike logs apart, and stores that tell two of them apart."""

import random
import unittest

from kindtwice.doublings import doublings
from kindtwice.endless import counting_store
from kindtwice.errors import Endless, InvalidLog, InvalidSetting
from kindtwice.kinds import Kinds
from kindtwice.settings import Setting, renamed, with_twice
from kindtwice.small import least, least_logs
from kindtwice.stores import Store, behind, behind_all, is_typed
from kindtwice.telling import is_telling, least_states, own_names, own_store, telling
from tests.helping import (CHAIN, CORNERS, ONE, PARITY, SETTING, Case, free, long_log, no_logs, no_settings, no_stores,
                           odd_objects, rows_of, some_setting, strict)
from tests.plain import breaking_ways
from tests.test_endless import words_to
from tests.test_small import COUNTS, DULL_PQ, DULL_QP, ENDLESS, SOME, all_logs

SWITCH = {"off": {"a": "on", "b": "off"}, "on": {"a": "off", "b": "on"}}
AROUND = {"x": {"a": "y", "b": "x"}, "y": {"a": "z", "b": "y"}, "z": {"a": "x", "b": "z"}}
WRONG = {"setting": (InvalidSetting, no_settings()[::3]), "one": (InvalidLog, no_logs()[::3]),
         "other": (InvalidLog, no_logs()[::3])}


def led(moves, state, log):
    for deed in log:
        state = moves[state][deed]
    return state


class OwnStore(Case):
    """[52]: own_store, own_names."""

    def test_states_and_their_logs(self):
        for setting, many in COUNTS:
            names = self.told(own_names, setting)
            self.same(list(names), words_to(many + 1))
            self.same(list(names.values()), [[]] + least_logs(setting))
            store = self.told(own_store, setting)
            self.same(store.states(), sorted(names))
            self.same(store.deeds(), list(setting.deeds()))
            self.same(own_names(setting=setting), names)
            self.same(own_store(setting=setting), store)

    def test_more_states_than_letters(self):
        names = own_names(SETTING)
        self.assertEqual(list(names)[24:29], ["y", "z", "aa", "ab", "ac"])
        self.assertEqual((len(names), list(names)[-1]), (186, words_to(186)[-1]))
        self.assertEqual(len(own_names(free("pqr"))), 160)

    def test_each_log_leads_from_the_beginning_to_its_own(self):
        for setting, _ in COUNTS:
            names, store = own_names(setting), own_store(setting)
            for word, log in names.items():
                self.same(behind(store, "a", log), word)

    def test_deeds_lead_to_the_log_with_the_deed_behind(self):
        for setting in SOME:
            names, moves = own_names(setting), own_store(setting).moves()
            for word, log in list(names.items())[::8]:
                for deed in setting.deeds():
                    self.same(names[moves[word][deed]], least(setting, log + [deed]))

    def test_it_is_typed_and_alike_logs_lead_to_one_state(self):
        chance = random.Random(3)
        for setting in SOME:
            store, names = own_store(setting), own_names(setting)
            self.same(is_typed(setting, store), True)
            for log in [long_log(setting, 60)] + [chance.choices(list(setting.deeds()), k=many) for many in (3, 8, 14)]:
                self.same(names[behind(store, "a", log)], least(setting, log))
                for other in doublings(setting, log)[:4]:
                    self.same(behind_all(store, log), behind_all(store, other))

    def test_no_alike_logs_are_missed(self):
        # Typed by the words: no log, whatever states it leads to, breaks a kind in twice.
        for setting in (DULL_PQ, DULL_QP, free("pq"), free("p")):
            least_ways = breaking_ways(setting, own_store(setting).moves())
            self.assertEqual([kind for kind in least_ways if kind in setting.twice()], [])

    def test_by_hand(self):
        one = free("pq")
        self.tells({"a": [], "b": ["p"], "c": ["q"], "d": ["p", "q"], "e": ["q", "p"], "f": ["p", "q", "p"],
                    "g": ["q", "p", "q"]}, own_names, one)
        moves = {"a": {"p": "b", "q": "c"}, "b": {"p": "b", "q": "d"}, "c": {"p": "e", "q": "c"},
                 "d": {"p": "f", "q": "d"}, "e": {"p": "e", "q": "g"}, "f": {"p": "f", "q": "d"},
                 "g": {"p": "e", "q": "g"}}
        self.tells(Store(moves), own_store, one)
        self.tells(Store({"a": {"p": "b"}, "b": {"p": "b"}}), own_store, free("p"))
        self.tells({"a": [], "b": ["p"]}, own_names, free("p"))

    def test_equal_settings_tell_the_same(self):
        for setting, _ in COUNTS[::2]:
            deeds = setting.deeds()
            again = Setting(Kinds(setting.kinds().table()), {deed: deeds[deed] for deed in list(deeds)[::-1]},
                            setting.twice())
            self.same(own_store(again), own_store(setting))
            self.same(own_names(again), own_names(setting))
            self.assertTrue(own_store(again) == own_store(setting))

    def test_endless_and_wrong_ones(self):
        for function in (own_store, own_names):
            for setting in ENDLESS:
                self.raises(Endless, setting, function, setting)
                self.raises(Endless, setting, function, setting=setting)
            self.wrong_one_by_one(function, {"setting": SETTING}, {"setting": (InvalidSetting, no_settings())})


class Telling(Case):
    """[53]: telling."""

    def check(self, setting, one, other):
        value = self.told(telling, setting, one, other)
        if one == other or one and other and least(setting, one) == least(setting, other):
            self.same(value, None)
        else:
            store, state = value
            self.assertIsInstance(store, Store)
            self.assertIn(state, store.states())
            self.same(store.deeds(), list(setting.deeds()))
            self.assertEqual(breaking_ways(setting, store.moves()).keys() & set(setting.twice()), set())
            self.assertNotEqual(led(store.moves(), state, one), led(store.moves(), state, other))
            self.tells(True, is_telling, setting, one, other, value)
        return value

    def test_short_logs(self):
        for setting in SOME:
            logs = all_logs(setting, 3)
            for at, one in enumerate(logs[::6]):
                for other in logs[at % 5::10]:
                    self.check(setting, one, other)

    def test_the_empty_log_beside_others(self):
        for setting, _ in COUNTS:
            self.tells(None, telling, setting, [], [])
            for log in rows_of(list(setting.deeds()), 1) + [long_log(setting, 60)]:
                for one, other in (([], log), (log, [])):
                    value = self.check(setting, one, other)
                    self.assertIsNot(value, None)

    def test_alike_logs(self):
        for setting in SOME:
            for log in (long_log(setting, 5), long_log(setting, 14)):
                self.tells(None, telling, setting, log, log)
                for other in doublings(setting, log)[::9]:
                    self.tells(None, telling, setting, log, other)
                    self.tells(None, telling, other=log, one=other, setting=setting)

    def test_logs_of_sixty_deeds(self):
        for setting in SOME:
            log = long_log(setting, 60)
            for other in (log[::-1], log[1:], log[:-1], list(setting.deeds()) * 20):
                self.check(setting, log, other)

    def test_all_least_logs_are_told_apart_by_few_states(self):
        # Stores that are judged have at most 13 states, those that telling returned among them.
        for setting in SOME:
            logs = [[]] + least_logs(setting)
            step = 1 if len(logs) < 20 else 37
            for at, one in enumerate(logs[::step]):
                for other in logs[at + 1::step * 2]:
                    if one != other:
                        store, state = telling(setting, one, other)
                        self.assertLessEqual(len(store.states()), 13)
                        self.assertNotEqual(led(store.moves(), state, one), led(store.moves(), state, other))
                        self.same(is_typed(setting, store), True)

    def test_endless_and_wrong_ones(self):
        for function in (telling, least_states):
            for setting in ENDLESS:
                deed = list(setting.deeds())[0]
                for one, other in (([], []), ([deed], [deed]), ([deed], [])):
                    self.raises(Endless, setting, function, setting, one, other)
                    self.raises(Endless, setting, function, other=other, one=one, setting=setting)
            for setting in (SETTING, with_twice(SETTING, [])):
                self.wrong_one_by_one(function, {"setting": setting, "one": ["a"], "other": ["b"]}, WRONG)
                for value in no_logs():
                    self.raises(InvalidLog, value, function, setting, value, ["b"])
                    self.raises(InvalidLog, value, function, setting, [], value)


class IsTelling(Case):
    """[53]: is_telling."""

    def test_stores_that_tell_and_such_that_do_not(self):
        switch, around = Store(SWITCH), Store(AROUND)
        self.tells(True, is_telling, SETTING, ["a"], ["b"], (switch, "on"))
        self.tells(True, is_telling, value=(switch, "off"), other=["b"], one=["a"], setting=SETTING)
        # Both lead to one state.
        self.tells(False, is_telling, SETTING, ["a"], ["a", "b"], (switch, "on"))
        self.tells(False, is_telling, SETTING, ["a"], ["a"], (switch, "on"))
        self.tells(False, is_telling, SETTING, [], [], (switch, "on"))
        self.tells(False, is_telling, SETTING, [], ["b"], (switch, "on"))
        self.tells(True, is_telling, SETTING, [], ["a"], (switch, "on"))
        # Not typed.
        self.tells(False, is_telling, SETTING, ["a"], ["b"], (around, "x"))
        self.tells(False, is_telling, free("ab"), ["a"], ["b"], (switch, "on"))
        self.tells(True, is_telling, with_twice(SETTING, []), ["a"], ["b"], (around, "x"))
        self.tells(True, is_telling, free("ab", []), ["a"], ["a", "a"], (switch, "on"))
        # No state of it.
        for state in ("x", "a", "", None, ["on"], ("on",), True, 0, {"on": 1}, switch, Kinds(ONE)):
            self.tells(False, is_telling, SETTING, ["a"], ["b"], (switch, state))

    def test_stores_of_other_deeds(self):
        for moves in ({"on": {"a": "off"}, "off": {"a": "on"}},
                      {"on": {"a": "off", "b": "on", "c": "on"}, "off": {"a": "on", "b": "off", "c": "off"}},
                      {"on": {"a": "off", "c": "on"}, "off": {"a": "on", "c": "off"}}):
            self.tells(False, is_telling, SETTING, ["a"], ["a", "a"], (Store(moves), "on"))
            self.tells(False, is_telling, SETTING, [], ["b"], (Store(moves), "on"))

    def test_settings_of_any_kind(self):
        for setting in ENDLESS:
            for deed in setting.deeds():
                if setting.deeds()[deed] in setting.twice():
                    continue
                kind = setting.deeds()[deed]
                if setting.kinds().put(kind, kind) == kind:
                    store = counting_store(setting, deed, 3)
                    self.tells(True, is_telling, setting, [deed], [deed] * 2, (store, "a"))
                    self.tells(False, is_telling, setting, [deed] * 4, [deed] * 5, (store, "a"))
                    self.tells(False, is_telling, setting, [deed], [deed] * 2, (store, "e"))
        # Far more unlike logs than 200.
        for table, twice in ((CHAIN, ["aa", "m", "mn", "zz"]), (CORNERS, ["ax", "ay", "bx", "by"])):
            setting = with_twice(some_setting(table), twice)
            deeds = list(setting.deeds())
            # The last of the deeds that are not the first one.
            states = {deed: "s" + chr(97 + at) for at, deed in enumerate(deeds)}
            moves = {state: dict(states) for state in states.values()}
            self.tells(True, is_telling, setting, deeds[:2], deeds[1::-1], (Store(moves), "sa"))
            self.tells(False, is_telling, setting, deeds[:2], deeds[2:3] + deeds[1:2], (Store(moves), "sa"))

    def test_by_the_words_with_drawn_stores(self):
        chance = random.Random(11)
        seen = set()
        for at in range(400):
            setting = [SETTING, DULL_PQ, free("pq"), with_twice(SETTING, []), some_setting(CHAIN)][at % 5]
            deeds = list(setting.deeds())
            states = ["one", "two", "three"][:chance.randrange(1, 4)]
            moves = {state: {deed: chance.choice(states) for deed in deeds} for state in states}
            one = chance.choices(deeds, k=chance.randrange(0, 4))
            other = chance.choices(deeds, k=chance.randrange(0, 4))
            state = chance.choice(states)
            broken = [kind for kind in breaking_ways(setting, moves) if kind in setting.twice()]
            wanted = not broken and led(moves, state, one) != led(moves, state, other)
            self.same(is_telling(setting, one, other, (Store(moves), state)), wanted)
            seen.add((wanted, bool(broken)))
        self.assertEqual(seen, {(True, False), (False, False), (False, True)})

    def test_own_stores(self):
        for setting in SOME:
            deeds = list(setting.deeds())
            store = own_store(setting)
            self.tells(True, is_telling, setting, [], deeds[:1], (store, "a"))
            self.tells(False, is_telling, setting, deeds, deeds, (store, "a"))
        self.tells(False, is_telling, renamed(SETTING, {"a": "x", "b": "y"}), ["x"], ["y"], (own_store(SETTING), "a"))

    def test_any_object_is_judged(self):
        switch = Store(SWITCH)
        for setting in (SETTING, with_twice(SETTING, [])):
            for value in odd_objects() + no_stores()[:9] + [
                    switch, [switch, "on"], (switch,), (switch, "on", "on"), ("on", switch), (SWITCH, "on"),
                    (None, "on"), (switch, ["on"]), ([switch], "on"), {switch.states()[0]: "on"}, (switch, switch),
                    ((switch, "on"),),
                    (SETTING, "on"), (True, False), ([], "on"), ({}, "off")]:
                self.tells(False, is_telling, setting, ["a"], ["b"], value)
            self.tells(False, is_telling, setting, [], [], None)

    def test_wrong_ones(self):
        for setting in (SETTING, with_twice(SETTING, [])):
            for value in (None, (Store(SWITCH), "on")):
                good = {"setting": setting, "one": ["a"], "other": ["b"], "value": value}
                self.wrong_one_by_one(is_telling, good, WRONG)


class LeastStates(Case):
    """[54]: least_states."""

    def test_by_the_least_logs(self):
        for setting in (DULL_PQ, free("pq"), free("p")):
            for one in all_logs(setting, 3):
                for other in all_logs(setting, 2):
                    wanted = [log for log in [[]] + least_logs(setting)
                              if (log + one or log + other)
                              and (not (log + one and log + other)
                                   or least(setting, log + one) != least(setting, log + other))]
                    self.tells(wanted, least_states, setting, one, other)

    def test_by_the_own_store(self):
        for setting in SOME:
            names, moves = own_names(setting), own_store(setting).moves()
            logs = [[], long_log(setting, 1), long_log(setting, 4), long_log(setting, 60)]
            for one in logs:
                for other in logs:
                    wanted = [log for word, log in names.items() if led(moves, word, one) != led(moves, word, other)]
                    self.tells(wanted, least_states, setting, one, other)
                    self.same([] in wanted, telling(setting, one, other) is not None)

    def test_alike_logs_part_nowhere(self):
        for setting in SOME:
            log = long_log(setting, 9)
            for other in [log] + doublings(setting, log)[::9]:
                self.tells([], least_states, setting, log, other)
                self.tells([], least_states, other=log, one=other, setting=setting)
            self.tells([], least_states, setting, [], [])

    def test_by_hand(self):
        one = free("pq")
        self.tells([], least_states, one, ["p"], ["p", "p"])
        self.tells([[], ["p"], ["q"], ["p", "q"], ["q", "p"], ["p", "q", "p"], ["q", "p", "q"]], least_states, one,
                   ["p"], ["q"])
        # Where p was done last, p changes nothing.
        self.tells([[], ["q"], ["p", "q"], ["q", "p", "q"]], least_states, one, [], ["p"])
        self.tells([[], ["q"]], least_states, one, ["p", "q"], ["q"])


class Pictures(Case):
    def test_the_store_does_not_change_with_what_was_told(self):
        store = own_store(SETTING)
        picture = strict(store)
        store.moves()["a"]["a"] = "z"
        own_names(SETTING)["a"].append("b")
        self.assertEqual(strict(store), picture)
        self.same(own_names(SETTING)["a"], [])
        self.same(strict(own_store(SETTING)), picture)
        self.same(Setting(Kinds(PARITY), {"b": "even", "a": "odd"}, ["even"]) == SETTING, True)


if __name__ == "__main__":
    unittest.main()
