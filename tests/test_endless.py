"""[38] to [40]: endless settings, and stores that count."""

import unittest

from kindtwice.endless import closed, counting_deeds, counting_store, is_endless, open_kinds, opened
from kindtwice.errors import InvalidCount, InvalidDeed, InvalidKind, InvalidSetting, Refused
from kindtwice.kinds import Kinds, own_squares
from kindtwice.settings import Setting, with_twice
from kindtwice.stores import behind, is_typed, typed_kinds
from tests.helping import (CHAIN, CORNERS, MANY_TABLES, ONE, PARITY, Case, no_counts, no_settings, odd_objects,
                           rows_of, some_setting, subsets)
from tests.plain import squares_of

ENDLESS = Setting(Kinds(PARITY), {"a": "odd", "b": "even"}, [])
LETTERS = "abcdefghijklmnopqrstuvwxyz"
NO_DEEDS = odd_objects()[:10] + ["c", "even", ["b"], ("b",), "B", {"b": 1}, ""]
NO_DEEDS = [one for one in NO_DEEDS if one not in ("a", "b")]


def words_to(many):
    """The first so many of a, b, .., z, aa, ab, .. ."""
    return (list(LETTERS) + [one + other for one in LETTERS for other in LETTERS])[:many]


class Endless(Case):
    """[38]: is_endless, open_kinds, counting_deeds."""

    def test_no_some_and_all_own_squares_in_twice(self):
        for table in MANY_TABLES:
            squares = squares_of(table)
            for twice in subsets(squares):
                setting = with_twice(some_setting(table), twice)
                wanted = [kind for kind in squares if kind not in twice]
                self.tells(wanted, open_kinds, setting)
                self.tells(twice != squares, is_endless, setting)
                deeds = setting.deeds()
                self.tells([deed for deed in sorted(deeds) if deeds[deed] in wanted], counting_deeds, setting)

    def test_by_name(self):
        self.tells(True, is_endless, setting=ENDLESS)
        self.tells(["even"], open_kinds, setting=ENDLESS)
        self.tells(["b"], counting_deeds, setting=ENDLESS)
        self.tells([], counting_deeds, setting=with_twice(ENDLESS, ["even"]))

    def test_several_deeds_of_one_kind(self):
        setting = Setting(Kinds(CHAIN), {"z": "aa", "y": "m", "x": "aa", "w": "mn", "v": "zz", "u": "zz"}, ["m", "zz"])
        self.tells(["w", "x", "z"], counting_deeds, setting)
        self.tells(["aa", "mn"], open_kinds, setting)

    def test_wrong_ones(self):
        for function in (is_endless, open_kinds, counting_deeds, closed):
            self.wrong_one_by_one(function, {"setting": ENDLESS}, {"setting": (InvalidSetting, no_settings())})


class Counting(Case):
    """[39]: counting_store."""

    def check(self, setting, deed, number):
        store = self.told(counting_store, setting, deed, number)
        states = words_to(number + 2)
        end = states[-1]
        moves = {state: {other: end for other in sorted(setting.deeds())} for state in sorted(states)}
        for at in range(number):
            moves[states[at]][deed] = states[at + 1]
        self.same(store.moves(), moves)
        return store

    def test_all_counting_deeds(self):
        for table in MANY_TABLES:
            for twice in subsets(squares_of(table)):
                setting = with_twice(some_setting(table), twice)
                for deed in counting_deeds(setting):
                    for number in (0, 1, 2, 9):
                        store = self.check(setting, deed, number)
                        self.same(is_typed(setting, store), True)
                        led = [behind(store, "a", [deed] * many) for many in range(number + 1)]
                        self.assertEqual(led, words_to(number + 1))

    def test_number_nought(self):
        store = self.check(ENDLESS, "b", 0)
        self.same(store.moves(), {"a": {"a": "b", "b": "b"}, "b": {"a": "b", "b": "b"}})
        self.same(typed_kinds(ENDLESS, store), ["even"])

    def test_more_than_the_letters(self):
        for number in (24, 25, 26, 50, 51, 52, 60):
            store = self.check(ENDLESS, "b", number)
            self.same(len(store.states()), number + 2)
        store = counting_store(number=60, deed="b", setting=ENDLESS)
        led = [behind(store, "a", ["b"] * many) for many in range(61)]
        self.assertEqual(led[25:29] + led[-1:], ["z", "aa", "ab", "ac", "bi"])
        self.assertEqual(behind(store, "a", ["b"] * 61), "bj")
        self.assertEqual(len(set(led)), 61)

    def test_a_kind_in_twice_or_not(self):
        deed = "".join(["b"])
        self.raises(Refused, deed, counting_store, closed(ENDLESS), deed, 3)
        self.raises(Refused, "a", counting_store, ENDLESS, "a", 3)
        self.raises(Refused, "a", counting_store, number=0, deed="a", setting=ENDLESS)
        for table in (ONE, CHAIN, CORNERS):
            setting = some_setting(table)
            for deed in setting.deeds():
                if setting.deeds()[deed] in setting.twice():
                    self.raises(Refused, deed, counting_store, setting, deed, 1)

    def test_a_refusal_comes_behind_the_number(self):
        for number in no_counts(0):
            self.raises(InvalidCount, number, counting_store, ENDLESS, "a", number)
            self.raises(InvalidCount, number, counting_store, closed(ENDLESS), "b", number)

    def test_beyond_the_limit_is_no_error(self):
        self.assertEqual(len(counting_store(ENDLESS, "b", 1000).states()), 1002)

    def test_wrong_ones(self):
        wrong = {"setting": (InvalidSetting, no_settings()), "deed": (InvalidDeed, NO_DEEDS),
                 "number": (InvalidCount, no_counts(0))}
        self.wrong_one_by_one(counting_store, {"setting": ENDLESS, "deed": "b", "number": 1}, wrong)


class ClosedAndOpened(Case):
    """[40]: closed, opened."""

    def test_all_lists_of_kinds_in_twice(self):
        for table in MANY_TABLES:
            squares = own_squares(Kinds(table))
            for twice in subsets(squares):
                setting = with_twice(some_setting(table), twice)
                wanted = Setting(setting.kinds(), setting.deeds(), squares)
                self.tells(wanted, closed, setting)
                self.assertTrue(closed(setting=setting) == wanted)
                for kind in setting.kinds().words():
                    if kind in twice:
                        rest = [one for one in twice if one != kind]
                        self.tells(with_twice(setting, rest), opened, setting, kind)
                        self.tells(with_twice(setting, rest), opened, kind=kind, setting=setting)
                    else:
                        self.raises(Refused, kind, opened, setting, kind)
                        self.raises(Refused, kind, opened, kind=kind, setting=setting)

    def test_one_and_back(self):
        for table in MANY_TABLES:
            setting = closed(some_setting(table))
            for kind in setting.twice():
                self.tells([kind], open_kinds, opened(setting, kind))
                self.assertTrue(closed(opened(setting, kind)) == setting)

    def test_wrong_ones(self):
        kinds = [one for one in odd_objects() if one not in ("even", "odd")] + ["b", ["even"], ("even",), {"even": 1}]
        wrong = {"setting": (InvalidSetting, no_settings()), "kind": (InvalidKind, kinds)}
        self.wrong_one_by_one(opened, {"setting": closed(ENDLESS), "kind": "even"}, wrong)
        self.wrong_one_by_one(opened, {"setting": closed(ENDLESS), "kind": "even"}, {"kind": (InvalidKind, ["more"])})
        for row in rows_of(["even", "odd"], 1):
            self.raises(InvalidKind, row, opened, ENDLESS, row)


if __name__ == "__main__":
    unittest.main()
