"""[20] to [23]: rows of stretches."""

import unittest

from kindtwice.errors import InvalidCount, InvalidKinds, InvalidLog, InvalidPlace, InvalidRow, InvalidSetting, Refused
from kindtwice.kinds import Kinds
from kindtwice.rows import (is_longest_row, is_row, is_scarce_row, longest_row, most_by_kind, most_stretches,
                            scarce_row, shortened, sure_stretches)
from kindtwice.settings import Setting, kind_of, with_twice
from kindtwice.trees import bound_of
from tests.helping import (CHAIN, CORNERS, DULL, FIRST_STAYS, LONG, MANY_TABLES, ONE, PARITY, SETTING, Case,
                           all_tables, kinds_in, long_log, no_counts, no_kinds, no_logs, no_settings, odd_objects,
                           once_again, rows_of, some_setting, words_of)
from tests.plain import most_in, points_lists, rows_in, squares_of

LOG = ["a", "b", "b", "a"]
ROW = ("even", [1, 2, 3])


def no_rows():
    """Objects that are no rows of stretches of LOG."""
    return odd_objects() + [
        ["even", [1, 2, 3]], ("even", (1, 2, 3)), ("even",), ("even", [1, 2], []), ("even", []), ("even", [1]),
        ("even", [2, 1]), ("even", [1, 1]), ("even", [1, 2, 2]), ("even", [1, 3, 2]), ("even", [0, 1]),
        ("odd", [0, 1]), ("odd", [1, 2]), ("odd", [3, 4]), ("Even", [1, 2]), (["even"], [1, 2]), (("even",), [1, 2]),
        (None, [1, 2]), (True, [1, 2]), ({"even": 1}, [1, 2]), (Kinds(PARITY), [1, 2]), (SETTING, [1, 2]),
        ("even", [True, 2]), ("even", [0, True]), ("even", [False, 4]), ("even", [1, 5]), ("even", [-1, 1]),
        ("even", [1, None]), ("even", ["1", 2]), ("even", [[1], 2]), ("even", [1, (2,)]), ("even", {1: 2, 2: 3}),
        ("even", "12"), ("even", None), ("even", [1, 2, 3, 4]), ("even", [1, 2, 10 ** 30]), ([1, 2, 3], "even"),
        ("even", [1, 2, {}]), ("even", [1, 2, Kinds(ONE)]), {"even": [1, 2]}, "even", [], ("b", [1, 2]),
    ]


class IsRow(Case):
    """[20]: is_row."""

    def test_all_points_of_short_logs(self):
        for table in MANY_TABLES:
            setting = some_setting(table)
            for log in [long_log(setting, 5)] + rows_of(list(setting.deeds()), 2):
                wanted = rows_in(table, kinds_in(setting, log))
                for kind in words_of(table):
                    for points in points_lists(len(log)):
                        self.same(is_row(setting, log, (kind, points)), (kind, points) in wanted)

    def test_rows_of_two_points_are_the_least(self):
        self.tells(True, is_row, SETTING, LOG, ("even", [1, 2]))
        self.tells(True, is_row, SETTING, LOG, ("even", [0, 4]))
        self.tells(False, is_row, SETTING, LOG, ("even", [1]))
        self.tells(False, is_row, SETTING, LOG, ("even", []))

    def test_kinds_that_are_no_own_squares(self):
        self.tells(False, is_row, SETTING, ["a", "b"], ("odd", [0, 2]))
        dull = Setting(Kinds(DULL), {"p": "x", "q": "z"}, [])
        self.tells(False, is_row, dull, ["p", "p"], ("x", [0, 1, 2]))
        self.tells(True, is_row, dull, ["p", "p"], ("z", [0, 2]))
        self.tells(False, is_row, dull, ["p", "p"], ("z", [0, 1, 2]))

    def test_twice_means_nothing(self):
        for twice in ([], ["even"]):
            self.tells(True, is_row, with_twice(SETTING, twice), LOG, ROW)
            self.tells(ROW, longest_row, with_twice(SETTING, twice), LOG)
            self.tells(2, most_stretches, with_twice(SETTING, twice), LOG)

    def test_any_object_is_judged(self):
        for value in no_rows():
            self.tells(False, is_row, SETTING, LOG, value)
            self.tells(False, is_row, value=value, log=LOG, setting=SETTING)
            self.tells(False, is_longest_row, SETTING, LOG, value)
            self.tells(False, is_longest_row, value=value, log=LOG, setting=SETTING)
            self.tells(False, is_row, SETTING, [], value)
            self.tells(False, is_longest_row, SETTING, [], value)
        self.tells(True, is_row, SETTING, LOG, ROW)
        self.tells(True, is_longest_row, SETTING, LOG, ROW)

    def test_each_stretch_between_any_two_points_has_the_kind_too(self):
        for table in MANY_TABLES:
            setting = some_setting(table)
            log = long_log(setting, 20)
            row = longest_row(setting, log)
            if row is not None:
                for at, point in enumerate(row[1]):
                    for later in row[1][at + 1:]:
                        self.tells(True, is_row, setting, log, (row[0], [point, later]))

    def test_wrong_ones(self):
        wrong = {"setting": (InvalidSetting, no_settings()), "log": (InvalidLog, no_logs())}
        for value in (ROW, None, [], ("even", [1])):
            for function in (is_row, is_longest_row):
                self.wrong_one_by_one(function, {"setting": SETTING, "log": LOG, "value": value}, wrong)


class Longest(Case):
    """[21]: most_stretches, longest_row, is_longest_row, most_by_kind."""

    def check(self, setting, log):
        table = setting.kinds().table()
        rows = rows_in(table, kinds_in(setting, log))
        most = max([len(points) - 1 for _, points in rows], default=0)
        self.tells(most, most_stretches, setting, log)
        self.tells({kind: max([len(points) - 1 for other, points in rows if other == kind], default=0)
                    for kind in squares_of(table)}, most_by_kind, setting, log)
        longest = self.told(longest_row, setting, log)
        if most == 0:
            self.assertIsNone(longest)
            self.tells(False, is_longest_row, setting, log, None)
        else:
            self.assertIn(longest, rows)
            self.assertEqual(len(longest[1]) - 1, most)
        for row in rows:
            self.same(is_longest_row(setting, log, row), len(row[1]) - 1 == most)

    def test_against_all_rows_of_short_logs(self):
        for table in MANY_TABLES + tuple(all_tables(2)) + tuple(all_tables(3)[::5]):
            setting = some_setting(table)
            for number in (0, 1, 2):
                for log in rows_of(list(setting.deeds()), number):
                    self.check(setting, log)
            self.check(setting, long_log(setting, 6))
            self.check(setting, long_log(setting, 9)[2:])

    def test_the_empty_log_and_logs_without_any_row(self):
        for table in MANY_TABLES:
            setting = some_setting(table)
            self.tells(0, most_stretches, setting, [])
            self.tells(None, longest_row, setting, [])
            self.tells({kind: 0 for kind in squares_of(table)}, most_by_kind, setting, [])
        for log in ([], ["a"]):
            self.tells(0, most_stretches, SETTING, log)
            self.tells(None, longest_row, setting=SETTING, log=log)
            self.tells({"even": 0}, most_by_kind, SETTING, log)
            for value in (None, (), ("even", []), ("even", [0]), ("odd", [0, 1])):
                self.tells(False, is_longest_row, SETTING, log, value)

    def test_logs_of_sixty(self):
        self.tells(60, most_stretches, SETTING, ["b"] * 60)
        self.tells(("even", list(range(61))), longest_row, SETTING, ["b"] * 60)
        self.tells(True, is_longest_row, SETTING, ["b"] * 60, ("even", list(range(61))))
        self.tells(False, is_longest_row, SETTING, ["b"] * 60, ("even", list(range(60))))
        self.tells({"even": 30}, most_by_kind, SETTING, ["a"] * 60)
        self.tells(True, is_longest_row, SETTING, ["a"] * 60, ("even", list(range(0, 61, 2))))
        self.tells(False, is_longest_row, SETTING, ["a"] * 60, ("even", list(range(1, 61, 2))))
        for table in MANY_TABLES:
            setting = some_setting(table)
            for log in (long_log(setting, 60), long_log(setting, 75)):
                row = self.told(longest_row, setting, log)
                most = max(self.told(most_by_kind, setting, log).values())
                self.tells(most, most_stretches, setting, log)
                self.assertEqual(len(row[1]) - 1, most)
                self.tells(True, is_longest_row, setting, log, row)

    def test_groups_by_the_points_of_one_kind_ahead(self):
        for table in (PARITY, once_again(1, 3), once_again(1, 4)):
            setting = some_setting(table)
            log = long_log(setting, 60)
            own = squares_of(table)[0]
            ahead = [own] + [kind_of(setting, log[:point]) for point in range(1, 61)]
            most = max(ahead.count(kind) for kind in words_of(table)) - 1
            self.tells({own: most}, most_by_kind, setting, log)

    def test_long_logs_have_a_row_of_more(self):
        for table in (ONE, PARITY, DULL):
            setting = some_setting(table)
            for most in (2, 3):
                length = most ** bound_of(setting.kinds()) + 1
                if length <= 300:
                    self.assertGreaterEqual(most_stretches(setting, long_log(setting, length)), most + 1)

    def test_wrong_ones(self):
        wrong = {"setting": (InvalidSetting, no_settings()), "log": (InvalidLog, no_logs())}
        for function in (most_stretches, longest_row, most_by_kind):
            self.wrong_one_by_one(function, {"setting": SETTING, "log": LOG}, wrong)


class Shortened(Case):
    """[22]: shortened."""

    def test_all_rows_of_short_logs(self):
        for table in MANY_TABLES:
            setting = some_setting(table)
            log = long_log(setting, 6)
            for row in rows_in(table, kinds_in(setting, log)):
                last = len(row[1]) - 1
                for one in range(last + 1):
                    for other in range(one + 1, last + 1):
                        if (one, other) == (0, last):
                            self.raises(Refused, row, shortened, setting, log, row, one, other)
                        else:
                            wanted = log[:row[1][one]] + log[row[1][other]:]
                            self.tells(wanted, shortened, setting, log, row, one, other)
                            self.assertEqual(kind_of(setting, wanted), kind_of(setting, log))

    def test_nothing_would_be_left(self):
        row = ("even", [1, 2])
        self.raises(Refused, row, shortened, SETTING, LOG, row, 0, 1)
        self.raises(Refused, row, shortened, last=1, first=0, row=row, log=LOG, setting=SETTING)
        self.raises(Refused, ROW, shortened, SETTING, LOG, ROW, 0, 2)
        self.tells(["a", "b", "a"], shortened, SETTING, LOG, ROW, 0, 1)
        self.tells(["a", "b", "a"], shortened, last=2, first=1, row=ROW, log=LOG, setting=SETTING)

    def test_a_refusal_comes_behind_the_places(self):
        self.raises(InvalidPlace, 3, shortened, SETTING, LOG, ROW, 0, 3)
        self.raises(InvalidPlace, 0, shortened, SETTING, LOG, ROW, 0, 0)
        self.raises(InvalidPlace, False, shortened, SETTING, LOG, ROW, False, 2)

    def test_the_last_position_is_one_but_none_is_later(self):
        for last in (0, 1, 2, 3, None, -1, True):
            self.raises(InvalidPlace, last, shortened, SETTING, LOG, ROW, 2, last)
        for first in (3, 4, -1, None, True, "0", [0], 10 ** 30):
            for last in (2, 4, first):
                self.raises(InvalidPlace, first, shortened, SETTING, LOG, ROW, first, last)

    def test_positions_are_no_points(self):
        row = ("even", [2, 3, 4])
        self.tells(["a", "a", "b", "b"], shortened, SETTING, ["a", "a", "b", "b", "b"], row, 0, 1)
        self.raises(InvalidPlace, 3, shortened, SETTING, ["a", "a", "b", "b", "b"], row, 2, 3)

    def test_logs_of_sixty(self):
        log = ["b"] * 60
        self.tells(["b"], shortened, SETTING, log, ("even", list(range(61))), 1, 60)
        self.tells(["b"], shortened, SETTING, log, ("even", list(range(61))), 0, 59)
        self.tells(["b"] * 30, shortened, SETTING, log, ("even", list(range(0, 61, 2))), 10, 25)

    def test_wrong_ones(self):
        places = no_counts(0) + [3, 10 ** 30]
        wrong = {"setting": (InvalidSetting, no_settings()[::3]), "log": (InvalidLog, no_logs()[::3]),
                 "row": (InvalidRow, no_rows()), "first": (InvalidPlace, places), "last": (InvalidPlace, places + [1])}
        self.wrong_one_by_one(shortened, {"setting": SETTING, "log": LOG, "row": ROW, "first": 1, "last": 2}, wrong)
        wrong = {"setting": (InvalidSetting, no_settings()), "log": (InvalidLog, no_logs()),
                 "row": (InvalidRow, [None])}
        self.wrong_one_by_one(shortened, {"setting": SETTING, "log": LOG, "row": ROW, "first": 1, "last": 2}, wrong)
        self.raises(InvalidRow, ROW, shortened, SETTING, [], ROW, 0, 1)


def numbers_for(table):
    """All numbers for which there are at most 512 lists of so many kinds, up to 12."""
    many = len(words_of(table))
    return [number for number in range(1, 13) if many ** number <= 512]


class Sure(Case):
    """[23]: sure_stretches, scarce_row, is_scarce_row."""

    def check(self, table, number):
        kinds = Kinds(table)
        rows = rows_of(words_of(table), number)
        most = [most_in(table, row) for row in rows]
        self.tells(min(most), sure_stretches, kinds, number)
        scarce = self.told(scarce_row, kinds, number)
        self.assertEqual((len(scarce), most_in(table, scarce)), (number, min(most)))
        for row, told in list(zip(rows, most))[::max(1, len(rows) // 30)]:
            self.same(is_scarce_row(kinds, number, row), told == min(most))
        self.tells(True, is_scarce_row, kinds, number, scarce)
        for value in (scarce[1:], scarce + scarce[:1], tuple(scarce), [scarce], None):
            self.tells(False, is_scarce_row, kinds, number, value)

    def test_all_tables_of_one_and_two_kinds(self):
        for table in all_tables(1) + all_tables(2):
            for number in numbers_for(table)[:7]:
                self.check(table, number)

    def test_every_number_that_lists_let(self):
        for table in (PARITY, DULL, FIRST_STAYS, once_again(1, 3), LONG, CORNERS, CHAIN):
            self.check(table, numbers_for(table)[-1])
        for table in all_tables(3)[::6] + all_tables(4)[::400]:
            for number in (1, 2, 3):
                self.check(table, number)

    def test_one_kind_alone(self):
        for number in (1, 2, 12, 60):
            self.tells(number, sure_stretches, Kinds(ONE), number)
            self.tells(["k"] * number, scarce_row, Kinds(ONE), number)
            self.tells(True, is_scarce_row, Kinds(ONE), number, ["k"] * number)

    def test_every_number_comes_within_limits(self):
        for table in MANY_TABLES:
            kinds = Kinds(table)
            told = [sure_stretches(kinds, number) for number in numbers_for(table)]
            self.assertEqual(told, sorted(told))
            number = numbers_for(table)[-1]
            self.same(is_scarce_row(kinds, number, scarce_row(kinds, number)), True)

    def test_any_object_is_judged(self):
        for number in (1, 2, 3):
            for value in odd_objects():
                self.tells(False, is_scarce_row, Kinds(PARITY), number, value)
        self.tells(True, is_scarce_row, Kinds(PARITY), 1, ["odd"])
        self.tells(False, is_scarce_row, Kinds(PARITY), 1, ["even"])
        for value in (("odd",), "odd", ["Odd"], [["odd"]], [None], [True], [Kinds(ONE)], ["odd", None], [("odd",)]):
            self.tells(False, is_scarce_row, value=value, number=1, kinds=Kinds(PARITY))

    def test_wrong_ones(self):
        wrong = {"kinds": (InvalidKinds, no_kinds()), "number": (InvalidCount, no_counts(1))}
        for function in (sure_stretches, scarce_row):
            self.wrong_one_by_one(function, {"kinds": Kinds(PARITY), "number": 2}, wrong)
        for value in (["odd", "odd"], None, []):
            self.wrong_one_by_one(is_scarce_row, {"kinds": Kinds(PARITY), "number": 2, "value": value}, wrong)
        for function in (sure_stretches, scarce_row):
            self.raises(InvalidCount, 0, function, Kinds(PARITY), 0)
            self.raises(InvalidCount, True, function, Kinds(PARITY), True)


if __name__ == "__main__":
    unittest.main()
