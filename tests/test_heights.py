"""[26]: low trees for every log, and heights of logs."""

import random
import unittest

from kindtwice.errors import InvalidKinds, InvalidLog, InvalidSetting, Refused
from kindtwice.kinds import Kinds
from kindtwice.trees import (are_heights, bound_of, height_of, heights, is_low_tree, is_tree, least_height, log_of,
                             low_tree, pairs_alone)
from tests.helping import (LONG, MANY_TABLES, ONE, PARITY, SETTING, Case, all_tables, long_log, no_kinds,
                           no_logs, no_settings, odd_objects, rows_of, some_setting, words_of)
from tests.plain import all_trees, are_bounded, height_in, is_sound, log_in

LOG = ["b", "a", "b"]


def chance_log(setting, number, seed):
    """A log as if by chance, the same each time."""
    chance = random.Random(seed)
    deeds = list(setting.deeds())
    return [chance.choice(deeds) for _ in range(number)]


def knotty_log(setting, number):
    """A log of ever longer beginnings within itself: a b a c a b a d .. ."""
    deeds = list(setting.deeds())
    log = []
    while len(log) < number:
        for deed in deeds:
            log = log + [deed] + log
            if len(log) >= number:
                break
    return log[:number]


class Low(Case):
    """[26]: bound_of, low_tree, is_low_tree."""

    def check(self, setting, log):
        tree = low_tree(setting, log)
        bound = 3 * len(setting.kinds().words()) - 1
        self.assertTrue(is_sound(setting, tree))
        self.assertEqual(log_in(tree), log)
        self.assertLessEqual(height_in(tree), bound)
        self.same(is_low_tree(setting, log, tree), True)

    def test_bound_of(self):
        for table in MANY_TABLES:
            self.tells(3 * len(words_of(table)) - 1, bound_of, Kinds(table))
            self.tells(3 * len(words_of(table)) - 1, bound_of, kinds=Kinds(table))
        self.wrong_one_by_one(bound_of, {"kinds": Kinds(PARITY)}, {"kinds": (InvalidKinds, no_kinds())})

    def test_all_short_logs(self):
        for table in MANY_TABLES:
            setting = some_setting(table)
            for number in (1, 2, 3):
                for log in rows_of(list(setting.deeds()), number):
                    self.check(setting, log)

    def test_six_hundred_deeds_over_many_tables(self):
        for table in MANY_TABLES + tuple(all_tables(2)) + tuple(all_tables(3)[::9]) + tuple(all_tables(4)[::120]):
            setting = some_setting(table)
            for log in (long_log(setting, 600), chance_log(setting, 600, 3), knotty_log(setting, 600)):
                self.check(setting, log)

    def test_logs_of_all_lengths(self):
        for table in MANY_TABLES + tuple(all_tables(4)[::600]):
            setting = some_setting(table)
            for number in range(1, 70, 3):
                self.check(setting, chance_log(setting, number, number))

    def test_each_call_again(self):
        for table in (ONE, PARITY, LONG):
            setting = some_setting(table)
            log = chance_log(setting, 600, 9)
            tree = self.told(low_tree, setting, log)
            self.tells(True, is_tree, setting, tree)
            self.tells(log, log_of, setting, tree)
            self.tells(height_in(tree), height_of, setting, tree)
            self.tells(True, is_low_tree, value=tree, log=log, setting=setting)
            self.tells(10, pairs_alone, setting, log)

    def test_not_too_high_and_not_another_log(self):
        tree = "b"
        for _ in range(5):
            tree = ("pair", tree, "b")
        self.tells(True, is_low_tree, SETTING, ["b"] * 6, tree)
        self.tells(False, is_low_tree, SETTING, ["b"] * 5, tree)
        self.tells(False, is_low_tree, SETTING, ["b"] * 5 + ["a"], tree)
        self.tells(False, is_low_tree, SETTING, ["b"] * 7, ("pair", tree, "b"))
        self.tells(False, is_low_tree, SETTING, ["b"] * 600, ("run", "even", ["b"] * 599))
        self.tells(True, is_low_tree, SETTING, ["b"] * 600, ("run", "even", ["b"] * 600))
        self.tells(False, is_low_tree, SETTING, ["a"] * 600, ("run", "odd", ["a"] * 600))
        deep = "b"
        for _ in range(599):
            deep = ("pair", deep, "b")
        self.same(is_low_tree(SETTING, ["b"] * 600, deep), False)

    def test_the_empty_log(self):
        empty = []
        self.raises(Refused, empty, low_tree, SETTING, empty)
        self.raises(Refused, empty, low_tree, log=empty, setting=SETTING)
        for value in (None, [], "a", "", (), ("pair", "a", "a"), {}):
            self.tells(False, is_low_tree, SETTING, [], value)

    def test_any_object_is_judged(self):
        for value in odd_objects():
            self.tells(value == "a", is_low_tree, SETTING, ["a"], value)
            self.tells(False, is_low_tree, value=value, log=["b", "b"], setting=SETTING)

    def test_wrong_ones(self):
        wrong = {"setting": (InvalidSetting, no_settings()), "log": (InvalidLog, no_logs())}
        self.wrong_one_by_one(low_tree, {"setting": SETTING, "log": LOG}, wrong)
        self.raises(InvalidSetting, None, low_tree, None, [])
        for value in ("a", None, ("pair", "a", "b")):
            self.wrong_one_by_one(is_low_tree, {"setting": SETTING, "log": LOG, "value": value}, wrong)


class Heights(Case):
    """[26]: heights, are_heights."""

    def test_they_tell_the_least_heights(self):
        for table in MANY_TABLES:
            setting = some_setting(table)
            for log in rows_of(list(setting.deeds()), 2) + [long_log(setting, 5), knotty_log(setting, 5)]:
                points = [(one, other) for one in range(len(log)) for other in range(one + 1, len(log) + 1)]
                wanted = {(one, other): min(map(height_in, all_trees(setting, log[one:other])))
                          for one, other in points}
                self.tells(wanted, heights, setting, log)

    def test_one_count_too_great(self):
        for table in MANY_TABLES:
            setting = some_setting(table)
            for log in (long_log(setting, 4), knotty_log(setting, 5), long_log(setting, 1)):
                told = heights(setting, log)
                self.tells(True, are_heights, setting, log, told)
                self.assertTrue(are_bounded(setting, log, told))
                for stretch in told:
                    for more in (1, 2, 10 ** 20):
                        other = {**told, stretch: told[stretch] + more}
                        self.tells(False, are_heights, setting, log, other)

    def test_lower_ones_by_the_words(self):
        for table in MANY_TABLES:
            setting = some_setting(table)
            for seed in range(12):
                chance = random.Random(seed)
                log = chance_log(setting, 5, seed)
                told = heights(setting, log)
                some = {stretch: chance.randint(max(0, told[stretch] - 1), told[stretch] + chance.choice([0, 0, 0, 1]))
                        for stretch in told}
                self.same(are_heights(setting, log, some), are_bounded(setting, log, some))
                for stretch in list(told)[::3]:
                    some = {**told, stretch: max(0, told[stretch] - 1)}
                    self.same(are_heights(setting, log, some), are_bounded(setting, log, some))

    def test_rows_of_more_than_two_stretches_bind(self):
        counts = {(one, other): 0 for one in range(5) for other in range(one + 1, 5)}
        for stretch in [(0, 3), (1, 4), (0, 2), (2, 4), (1, 3)]:
            counts[stretch] = 1
        counts[(0, 4)] = 1
        self.tells(True, are_heights, SETTING, ["b"] * 4, counts)
        counts[(0, 4)] = 2
        self.tells(False, are_heights, SETTING, ["b"] * 4, counts)
        counts[(0, 2)] = counts[(2, 4)] = counts[(1, 3)] = 0
        self.tells(False, are_heights, SETTING, ["b"] * 4, counts)
        counts[(0, 4)] = 1
        self.tells(True, are_heights, SETTING, ["b"] * 4, counts)
        self.tells(True, are_heights, SETTING, ["a", "b"], {(0, 1): 0, (0, 2): 1, (1, 2): 0})
        self.tells(False, are_heights, SETTING, ["a", "b"], {(0, 1): 0, (0, 2): 2, (1, 2): 0})

    def test_all_noughts(self):
        for table in MANY_TABLES:
            setting = some_setting(table)
            for number in (1, 2, 5, 60):
                noughts = {(one, other): 0 for one in range(number) for other in range(one + 1, number + 1)}
                self.tells(True, are_heights, setting, long_log(setting, number), noughts)
                turned = {stretch: 0 for stretch in list(noughts)[::-1]}
                self.tells(True, are_heights, setting, long_log(setting, number), turned)

    def test_keys_too_many_and_left_out(self):
        told = heights(SETTING, LOG)
        for stretch in told:
            fewer = dict(told)
            del fewer[stretch]
            self.tells(False, are_heights, SETTING, LOG, fewer)
            for key in [(0, 4), (3, 3), (0, 0), (1, 0), (-1, 1), (3, 4), (0,), (0, 1, 2), 0, None, "", "01", (),
                        ("0", "1"), (0, None), ((0, 1), 2), (2, 1), True, InvalidLog(1)]:
                self.tells(False, are_heights, SETTING, LOG, {**told, key: 0})
                self.tells(False, are_heights, SETTING, LOG, {**fewer, key: 0})

    def test_true_and_false_are_no_numbers(self):
        told = heights(SETTING, LOG)
        self.tells(False, are_heights, SETTING, LOG, {**told, (0, 1): False})
        self.tells(False, are_heights, SETTING, LOG, {**told, (0, 2): True})
        self.tells(True, are_heights, SETTING, ["b"], {(0, 1): 0})
        self.tells(False, are_heights, SETTING, ["b"], {(False, True): 0})
        self.tells(False, are_heights, SETTING, ["b"], {(0, True): 0})
        self.tells(False, are_heights, SETTING, ["b"], {(False, 1): 0})

    def test_counts_that_are_none(self):
        told = heights(SETTING, LOG)
        for stretch in told:
            for value in (-1, None, "0", [0], (0,), {}, "", Kinds(ONE), -10 ** 30):
                self.tells(False, are_heights, SETTING, LOG, {**told, stretch: value})

    def test_any_object_is_judged(self):
        for value in odd_objects() + [[0], list(heights(SETTING, LOG).items()), [heights(SETTING, LOG)]]:
            for log in (LOG, ["a"], []):
                self.tells(False, are_heights, SETTING, log, value)
                self.tells(False, are_heights, value=value, log=log, setting=SETTING)

    def test_the_empty_log(self):
        empty = []
        self.raises(Refused, empty, heights, SETTING, empty)
        for value in ({}, None, [], {(0, 0): 0}, {(0, 1): 0}):
            self.tells(False, are_heights, SETTING, [], value)

    def test_logs_of_sixty(self):
        for table in MANY_TABLES:
            setting = some_setting(table)
            log = long_log(setting, 60)
            told = self.told(heights, setting, log)
            self.assertEqual(list(told), [(one, other) for one in range(60) for other in range(one + 1, 61)])
            self.same(told[(0, 60)], least_height(setting, log))
            self.same(told[(10, 31)], least_height(setting, log[10:31]))
            self.tells(True, are_heights, setting, log, told)
            for stretch in ((0, 60), (0, 2), (30, 45), (59, 60)):
                self.tells(False, are_heights, setting, log, {**told, stretch: told[stretch] + 1})

    def test_no_tree_is_lower_than_heights_tell(self):
        for table in MANY_TABLES:
            setting = some_setting(table)
            log = chance_log(setting, 5, 1)
            top = heights(setting, log)[(0, 5)]
            self.assertEqual(top, min(map(height_in, all_trees(setting, log))))

    def test_wrong_ones(self):
        wrong = {"setting": (InvalidSetting, no_settings()), "log": (InvalidLog, no_logs())}
        self.wrong_one_by_one(heights, {"setting": SETTING, "log": LOG}, wrong)
        self.raises(InvalidSetting, None, heights, None, [])
        for value in ({}, None, heights(SETTING, LOG)):
            self.wrong_one_by_one(are_heights, {"setting": SETTING, "log": LOG, "value": value}, wrong)


if __name__ == "__main__":
    unittest.main()
