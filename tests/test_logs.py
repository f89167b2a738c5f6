"""[16] to [18]: logs of a setting, their kinds, and where they may be redone."""

import unittest

from kindtwice.errors import InvalidLog, InvalidPlace, InvalidSetting, Refused
from kindtwice.kinds import Kinds, own_squares, put_all
from kindtwice.settings import (Setting, is_log, kind_between, kind_of, many_by_kind, may_redo, redo_points,
                                with_twice)
from tests.helping import (CHAIN, FIRST_STAYS, LAST_STAYS, MANY_TABLES, PARITY, SETTING, Case, kinds_in, long_log,
                           no_counts, no_logs, no_settings, put_together, rows_of, some_setting, stretches, subsets,
                           words_of)

class IsLog(Case):
    """[16]: is_log."""

    def test_logs(self):
        for table in MANY_TABLES:
            setting = some_setting(table)
            for number in (0, 1, 2):
                for log in rows_of(list(setting.deeds()), number):
                    self.same(is_log(setting, log), True)
            for number in (60, 61, 600):
                self.tells(True, is_log, setting, long_log(setting, number))
                self.tells(False, is_log, setting, long_log(setting, number) + ["other"])
                self.tells(False, is_log, setting, ["other"] + long_log(setting, number))
                self.tells(False, is_log, setting, tuple(long_log(setting, number)))

    def test_the_empty_log(self):
        self.tells(True, is_log, SETTING, [])
        self.tells(True, is_log, value=[], setting=SETTING)
        self.tells(False, is_log, SETTING, ())

    def test_any_object_is_judged(self):
        for value in no_logs():
            self.tells(False, is_log, SETTING, value)
            self.tells(False, is_log, setting=SETTING, value=value)

    def test_what_is_no_setting(self):
        for value in (["a"], [], None, 7, ("a",)):
            self.wrong_one_by_one(is_log, {"setting": SETTING, "value": value},
                                  {"setting": (InvalidSetting, no_settings())})


class KindOf(Case):
    """[16]: kind_of."""

    def test_all_short_logs(self):
        for table in MANY_TABLES:
            setting = some_setting(table)
            for number in (1, 2, 3):
                for log in rows_of(list(setting.deeds()), number):
                    self.same(kind_of(setting, log), put_together(table, kinds_in(setting, log)))

    def test_the_order_counts(self):
        deeds = {"x": "a", "y": "b", "z": "c"}
        self.tells("b", kind_of, Setting(Kinds(FIRST_STAYS), deeds, []), ["y", "x", "z"])
        self.tells("c", kind_of, Setting(Kinds(LAST_STAYS), deeds, []), ["y", "x", "z"])

    def test_twice_means_nothing_for_it(self):
        for twice in ([], ["even"]):
            self.tells("odd", kind_of, with_twice(SETTING, twice), ["a", "b", "a", "a"])

    def test_logs_of_sixty_and_more(self):
        for table in MANY_TABLES:
            setting = some_setting(table)
            for number in (60, 100):
                log = long_log(setting, number)
                self.tells(put_together(table, kinds_in(setting, log)), kind_of, setting, log)
                self.tells(put_all(Kinds(table), kinds_in(setting, log)), kind_of, log=log, setting=setting)

    def test_of_the_empty_log(self):
        for setting in (SETTING, with_twice(SETTING, [])):
            log = []
            self.raises(Refused, log, kind_of, setting, log)
            self.raises(Refused, log, kind_of, log=log, setting=setting)

    def test_wrong_ones(self):
        wrong = {"setting": (InvalidSetting, no_settings()), "log": (InvalidLog, no_logs())}
        self.wrong_one_by_one(kind_of, {"setting": SETTING, "log": ["a"]}, wrong)
        for setting in (None, Kinds(PARITY)):
            self.raises(InvalidSetting, setting, kind_of, setting, [])


class KindBetween(Case):
    """[17], [18]: kind_between and may_redo."""

    def test_all_stretches(self):
        for table in MANY_TABLES:
            setting = some_setting(table)
            log = long_log(setting, 9)
            for twice in subsets(own_squares(Kinds(table))):
                other = with_twice(setting, twice)
                for first, last, stretch in stretches(log):
                    kind = put_together(table, kinds_in(setting, stretch))
                    self.same(kind_between(other, log, first, last), kind)
                    self.same(may_redo(other, log, first, last), kind in twice)

    def test_own_squares_that_are_not_in_twice(self):
        self.tells(False, may_redo, with_twice(SETTING, []), ["b", "b"], 0, 1)
        self.tells(True, may_redo, SETTING, ["b", "b"], 0, 1)
        self.tells(False, may_redo, SETTING, ["a", "b"], 0, 1)
        self.tells(True, may_redo, last=2, first=0, log=["a", "a"], setting=SETTING)
        self.tells("even", kind_between, last=2, first=0, log=["a", "a"], setting=SETTING)

    def test_logs_of_sixty(self):
        for table in MANY_TABLES:
            setting = some_setting(table)
            log = long_log(setting, 60)
            for first, last in [(0, 60), (0, 1), (59, 60), (1, 60), (0, 59), (20, 41)]:
                kind = put_together(table, kinds_in(setting, log[first:last]))
                self.tells(kind, kind_between, setting, log, first, last)
                self.tells(kind in setting.twice(), may_redo, setting, log, first, last)

    def test_points_at_the_edges(self):
        log = ["a", "b", "a"]
        for function in (kind_between, may_redo):
            for first in range(3):
                for last in range(first + 1, 4):
                    self.told(function, SETTING, log, first, last)
                for last in [0, first, -1, 4, 5, 10 ** 30] + list(range(first)):
                    self.raises(InvalidPlace, last, function, SETTING, log, first, last)
            for first in (3, 4, -1, -3, 10 ** 30):
                for last in (0, 1, 2, 3, 4, 5, None):
                    self.raises(InvalidPlace, first, function, SETTING, log, first, last)

    def test_the_empty_log_has_no_stretch(self):
        for function in (kind_between, may_redo):
            for first in (0, 1, -1):
                for last in (0, 1):
                    self.raises(InvalidPlace, first, function, SETTING, [], first, last)

    def test_the_first_of_two_wrong_points(self):
        one, other = [1], [1]
        for function in (kind_between, may_redo):
            self.raises(InvalidPlace, one, function, SETTING, ["a"], one, other)
            self.raises(InvalidPlace, other, function, SETTING, ["a"], 0, other)

    def test_true_and_false_are_no_points(self):
        for function in (kind_between, may_redo):
            self.raises(InvalidPlace, False, function, SETTING, ["a", "b"], False, 1)
            self.raises(InvalidPlace, True, function, SETTING, ["a", "b"], 0, True)
            self.raises(InvalidPlace, True, function, SETTING, ["a", "b"], True, 2)

    def test_wrong_ones(self):
        places = no_counts(0) + [3, 10 ** 30]
        wrong = {"setting": (InvalidSetting, no_settings()), "log": (InvalidLog, no_logs()),
                 "first": (InvalidPlace, places), "last": (InvalidPlace, places + [0, 1])}
        for function in (kind_between, may_redo):
            self.wrong_one_by_one(function, {"setting": SETTING, "log": ["a", "b"], "first": 1, "last": 2}, wrong)


class ManyByKind(Case):
    """[17]: many_by_kind."""

    def wanted(self, table, setting, log):
        kinds = [put_together(table, kinds_in(setting, stretch)) for _, _, stretch in stretches(log)]
        return {kind: kinds.count(kind) for kind in words_of(table)}

    def test_short_logs(self):
        for table in MANY_TABLES:
            setting = some_setting(table)
            for number in (0, 1, 2, 3):
                for log in rows_of(list(setting.deeds()), number):
                    self.same(many_by_kind(setting, log), self.wanted(table, setting, log))

    def test_logs_of_sixty(self):
        for table in MANY_TABLES:
            setting = some_setting(table)
            log = long_log(setting, 60)
            self.tells(self.wanted(table, setting, log), many_by_kind, setting, log)
            self.assertEqual(sum(many_by_kind(log=log, setting=setting).values()), 60 * 61 // 2)

    def test_the_empty_log(self):
        self.tells({"even": 0, "odd": 0}, many_by_kind, SETTING, [])

    def test_all_kinds_ascend_also_those_of_no_stretch(self):
        setting = Setting(Kinds(CHAIN), {"p": "zz", "q": "mn", "r": "aa", "s": "m"}, [])
        self.tells({"aa": 0, "m": 0, "mn": 0, "zz": 3}, many_by_kind, setting, ["p", "p"])
        self.tells({"aa": 0, "m": 1, "mn": 0, "zz": 2}, many_by_kind, log=["p", "s"], setting=setting)

    def test_alike_stretches_count_each(self):
        self.tells({"even": 10, "odd": 0}, many_by_kind, SETTING, ["b"] * 4)
        self.tells({"even": 4, "odd": 6}, many_by_kind, SETTING, ["a"] * 4)

    def test_wrong_ones(self):
        wrong = {"setting": (InvalidSetting, no_settings()), "log": (InvalidLog, no_logs())}
        self.wrong_one_by_one(many_by_kind, {"setting": SETTING, "log": ["a"]}, wrong)


class RedoPoints(Case):
    """[18]: redo_points."""

    def wanted(self, table, setting, log):
        return [point for point in range(len(log))
                if put_together(table, kinds_in(setting, log[point:])) in setting.twice()]

    def test_short_logs(self):
        for table in MANY_TABLES:
            setting = some_setting(table)
            for twice in subsets(own_squares(Kinds(table))):
                other = with_twice(setting, twice)
                for number in (1, 2, 3):
                    for log in rows_of(list(setting.deeds()), number)[::2]:
                        self.same(redo_points(other, log), self.wanted(table, other, log))

    def test_logs_of_sixty(self):
        for table in MANY_TABLES:
            setting = some_setting(table)
            log = long_log(setting, 60)
            self.tells(self.wanted(table, setting, log), redo_points, setting, log)
            self.tells([], redo_points, log=log, setting=with_twice(setting, []))

    def test_the_order_counts(self):
        deeds = {"x": "a", "y": "b", "z": "c"}
        self.tells([1], redo_points, Setting(Kinds(FIRST_STAYS), deeds, ["b"]), ["x", "y", "z"])
        self.tells([], redo_points, Setting(Kinds(LAST_STAYS), deeds, ["b"]), ["x", "y", "z"])
        self.tells([0, 1, 2], redo_points, Setting(Kinds(LAST_STAYS), deeds, ["c"]), ["x", "y", "z"])

    def test_the_empty_log_and_the_edges(self):
        self.tells([], redo_points, SETTING, [])
        self.tells([0], redo_points, SETTING, ["b"])
        self.tells([], redo_points, SETTING, ["a"])
        self.tells([0, 1, 2], redo_points, SETTING, ["b", "b", "b"])
        self.tells([], redo_points, with_twice(SETTING, []), ["b", "b", "b"])

    def test_wrong_ones(self):
        wrong = {"setting": (InvalidSetting, no_settings()), "log": (InvalidLog, no_logs())}
        self.wrong_one_by_one(redo_points, {"setting": SETTING, "log": ["a"]}, wrong)


if __name__ == "__main__":
    unittest.main()
