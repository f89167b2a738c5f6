"""[41] to [44]: plain settings, steps, alike logs, and differences."""

import unittest

from kindtwice.alike import are_alike, difference, is_difference, is_plain, steps, whole_end, whole_start
from kindtwice.doublings import doublings, halvings
from kindtwice.endless import closed
from kindtwice.errors import InvalidLog, InvalidSetting, Refused
from kindtwice.kinds import Kinds, own_squares
from kindtwice.settings import Setting, with_twice
from tests.helping import (CHAIN, CORNERS, DULL, FIRST_STAYS, KLEIN, LAST_STAYS, LONG, MANY_TABLES, ONE, PARITY,
                           SETTING, Case, all_tables, by_rule, long_log, no_logs, no_settings, odd_objects, once_again,
                           rows_of, some_setting, subsets, words_of)
from tests.plain import alike_within, are_same, differences, plain_steps, squares_of

GROUPS = (ONE, PARITY, KLEIN, once_again(1, 3), once_again(1, 4))
ALL_SQUARES = (ONE, FIRST_STAYS, LAST_STAYS, CHAIN, CORNERS)
WRONG = {"setting": (InvalidSetting, no_settings()), "log": (InvalidLog, no_logs()), "one": (InvalidLog, no_logs()),
         "other": (InvalidLog, no_logs())}
FEW = {name: (error, objects[::5]) for name, (error, objects) in WRONG.items()}


def whole(table):
    """A setting with all own squares in twice and one deed more than kinds."""
    return closed(some_setting(table))


def not_plain():
    """Settings that are not plain: endless ones, and kinds that are neither."""
    return [with_twice(SETTING, []), with_twice(some_setting(ONE), []), with_twice(whole(CHAIN), ["aa", "m"]),
            whole(DULL), whole(LONG), whole(once_again(2, 2)), with_twice(whole(KLEIN), [])]


def is_group(table):
    """Whether some kind leaves all as they are, and each has one that leads back to it, on both sides."""
    words = words_of(table)
    own = [word for word in words if all(table[(word, one)] == one == table[(one, word)] for one in words)]
    return own != [] and all(any(table[(one, other)] == own[0] == table[(other, one)] for other in words)
                             for one in words)


class Plain(Case):
    """[41]: is_plain, steps."""

    def test_all_small_tables_with_all_twice(self):
        for table in MANY_TABLES + tuple(all_tables(2)) + tuple(all_tables(3)) + tuple(all_tables(4)[::60]):
            setting = some_setting(table)
            squares = squares_of(table)
            for twice in subsets(squares):
                wanted = twice == squares and (squares == words_of(table) or is_group(table))
                self.same(is_plain(with_twice(setting, twice)), wanted)

    def test_a_group_has_both_sides(self):
        words = ["ax", "ay", "bx", "by"]

        def both(one, other):
            return "a" if one[0] == other[0] else "b"

        for rule in (lambda one, other: both(one, other) + one[1], lambda one, other: both(one, other) + other[1]):
            self.tells(False, is_plain, whole(by_rule(words, rule)))
        group = by_rule(words, lambda one, other: both(one, other) + "xy"[one[1] != other[1]])
        self.tells(True, is_plain, whole(group))

    def test_by_hand(self):
        for table in GROUPS + ALL_SQUARES:
            self.tells(True, is_plain, whole(table))
            self.tells(False, is_plain, setting=with_twice(whole(table), []))
        for setting in not_plain():
            self.tells(False, is_plain, setting)

    def test_steps(self):
        for table in GROUPS + ALL_SQUARES:
            setting = whole(table)
            for log in rows_of(list(setting.deeds()), 2) + [[], long_log(setting, 6), long_log(setting, 60)]:
                self.tells(plain_steps(setting, log), steps, setting, log)

    def test_steps_by_hand(self):
        self.tells([("even", "a"), ("odd", "b"), ("odd", "a"), ("even", "b")], steps, SETTING, ["a", "b", "a", "b"])
        self.tells(["p", "q", "p"], steps, Setting(Kinds(ONE), {"p": "k", "q": "k"}, ["k"]), ["p", "q", "p"])
        self.tells([], steps, log=[], setting=SETTING)

    def test_refused(self):
        for setting in not_plain():
            deed = list(setting.deeds())[0]
            for log in ([], [deed]):
                for function in (steps, whole_start, whole_end):
                    self.raises(Refused, setting, function, setting, log)
                    self.raises(Refused, setting, function, log=log, setting=setting)
                for function in (are_alike, difference):
                    self.raises(Refused, setting, function, setting, log, [deed])
                    self.raises(Refused, setting, function, other=log, one=log, setting=setting)
            for function in (steps, whole_start, whole_end):
                log = [deed, "other"]
                self.raises(InvalidLog, log, function, setting, log)
            for function in (are_alike, difference):
                log = [deed, "other"]
                self.raises(InvalidLog, log, function, setting, [deed], log)
                self.raises(InvalidLog, log, function, setting, log, [deed])

    def test_wrong_ones(self):
        self.wrong_one_by_one(is_plain, {"setting": SETTING}, WRONG)
        for function in (steps, whole_start, whole_end):
            self.wrong_one_by_one(function, {"setting": SETTING, "log": ["a"]}, WRONG)


class Whole(Case):
    """[42]: whole_start, whole_end."""

    def test_short_and_long_logs(self):
        for table in GROUPS + ALL_SQUARES:
            setting = whole(table)
            for log in rows_of(list(setting.deeds())[:2], 5)[::3] + [[], long_log(setting, 9), long_log(setting, 60)]:
                told = plain_steps(setting, log)
                start = min(number for number in range(len(log) + 1) if set(told[:number]) == set(told))
                end = min(number for number in range(len(log) + 1) if set(told[len(told) - number:]) == set(told))
                self.tells(start, whole_start, setting, log)
                self.tells(end, whole_end, setting, log)

    def test_the_empty_log(self):
        for table in GROUPS + ALL_SQUARES:
            self.tells(0, whole_start, whole(table), [])
            self.tells(0, whole_end, log=[], setting=whole(table))

    def test_by_hand(self):
        log = ["a", "b", "a", "a"]
        self.tells(3, whole_start, SETTING, log)
        self.tells(3, whole_end, log=log, setting=SETTING)
        self.tells(1, whole_start, SETTING, ["b", "b", "b"])
        self.tells(1, whole_end, SETTING, ["b", "b", "b"])
        self.tells(2, whole_start, SETTING, ["a", "a", "a", "a"])


class Alike(Case):
    """[43]: are_alike."""

    def test_by_the_words(self):
        for table in GROUPS + ALL_SQUARES:
            setting = whole(table)
            deeds = list(setting.deeds())[:2]
            logs = [log for number in range(5) for log in rows_of(deeds, number)]
            told = [plain_steps(setting, log) for log in logs]
            for one, row in list(zip(logs, told))[::2]:
                for other, beside in zip(logs, told):
                    self.same(are_alike(setting, one, other), are_same(row, beside))

    def against_short_chains(self, setting, deeds, number, most):
        logs = [log for many in range(number + 1) for log in rows_of(deeds, many)]
        for one in logs:
            alike = alike_within(setting, one, most)
            for other in logs:
                self.same(are_alike(setting, one, other), tuple(other) in alike)

    def test_against_a_plain_search_of_short_chains(self):
        self.against_short_chains(SETTING, ["a", "b"], 4, 9)
        self.against_short_chains(Setting(Kinds(ONE), {"p": "k", "q": "k"}, ["k"]), ["p", "q"], 4, 8)
        self.against_short_chains(Setting(Kinds(ONE), {"p": "k", "q": "k", "r": "k"}, ["k"]), list("pqr"), 2, 6)
        self.against_short_chains(whole(once_again(1, 3)), list(whole(once_again(1, 3)).deeds())[:2], 4, 7)
        for table in (CHAIN, CORNERS, FIRST_STAYS):
            self.against_short_chains(whole(table), list(whole(table).deeds())[:2], 3, 6)

    def test_doublings_and_halvings_are_alike(self):
        for table in GROUPS + ALL_SQUARES:
            setting = whole(table)
            log = long_log(setting, 14)
            for other in doublings(setting, log)[::5] + halvings(setting, log):
                self.tells(True, are_alike, setting, log, other)
                self.tells(None, difference, setting, other, log)

    def test_all_classes_of_small_settings(self):
        for table, deeds, many in [(PARITY, {"a": "odd", "b": "even"}, 185), (ONE, {"p": "k", "q": "k"}, 6),
                                   (ONE, {"p": "k"}, 1), (ONE, {"p": "k", "q": "k", "r": "k"}, 159)]:
            setting = Setting(Kinds(table), deeds, own_squares(Kinds(table)))
            least = []
            level = [[]]
            while level:
                following = []
                for log in level:
                    for deed in deeds:
                        if not any(are_alike(setting, log + [deed], other) for other in least):
                            least.append(log + [deed])
                            following.append(log + [deed])
                level = following
            self.assertEqual(len(least), many)

    def test_logs_of_sixty(self):
        for table in GROUPS + ALL_SQUARES:
            setting = whole(table)
            log = long_log(setting, 60)
            deeds = list(setting.deeds())
            self.tells(True, are_alike, setting, log, list(log))
            longer = doublings(setting, log)[7]
            self.tells(True, are_alike, setting, log, longer)
            self.same(are_alike(setting, log, log[::-1]), difference(setting, log, log[::-1]) is None)
            self.same(are_alike(setting, log, []), False)
            own = [deed for deed in deeds if setting.deeds()[deed] in setting.twice()][0]
            self.tells(True, are_alike, setting, [own] * 60, [own])
            self.tells(True, are_alike, other=[own] * 60, one=[own] * 59, setting=setting)
            for at in (0, 29, 59):
                other = log[:at] + [deeds[(deeds.index(log[at]) + 1) % len(deeds)]] + log[at + 1:]
                wanted = are_same(plain_steps(setting, log), plain_steps(setting, other)) if len(deeds) < 3 else None
                if wanted is not None:
                    self.same(are_alike(setting, log, other), wanted)

    def test_the_empty_log_is_alike_to_itself_alone(self):
        for table in GROUPS + ALL_SQUARES:
            setting = whole(table)
            self.tells(True, are_alike, setting, [], [])
            for deed in setting.deeds():
                self.tells(False, are_alike, setting, [], [deed])
                self.tells(False, are_alike, setting, [deed], [])

    def test_wrong_ones(self):
        for function in (are_alike, difference):
            self.wrong_one_by_one(function, {"setting": SETTING, "one": ["a"], "other": ["b"]}, FEW)
            for value in no_logs():
                self.raises(InvalidLog, value, function, SETTING, value, ["b"])
                self.raises(InvalidLog, value, function, SETTING, ["b"], value)


class Differences(Case):
    """[44]: difference, is_difference."""

    def test_against_all_differences(self):
        for table in GROUPS + ALL_SQUARES:
            setting = whole(table)
            deeds = list(setting.deeds())[:2]
            logs = [log for number in range(4) for log in rows_of(deeds, number)] + [long_log(setting, 6)]
            for one in logs[::2]:
                for other in logs:
                    row, beside = plain_steps(setting, one), plain_steps(setting, other)
                    every = differences(row, beside, 12)
                    told = difference(setting, one, other)
                    self.assertEqual(told is None, every == set())
                    self.assertEqual(told is None, are_same(row, beside))
                    if told is not None:
                        self.assertIsInstance(told[0], list)
                        self.assertIn((tuple(told[0]), told[1]), every)
                        self.same(is_difference(setting, one, other, told), True)
                    for turns, step in sorted(every, key=repr)[:4]:
                        self.same(is_difference(setting, one, other, (list(turns), step)), True)

    def test_all_turns_and_steps(self):
        turns = [list(turns) for number in range(4) for turns in rows_of(["ahead", "behind"], number)]
        for setting, one, other in [(SETTING, ["a", "b", "a"], ["b", "a", "a"]), (SETTING, ["a"], ["a", "a"]),
                                    (SETTING, ["a", "b"], ["a", "b", "b"]), (SETTING, [], ["a"]), (SETTING, [], []),
                                    (Setting(Kinds(ONE), {"a": "k", "b": "k"}, ["k"]), ["a", "b"], ["b", "a"]),
                                    (Setting(Kinds(ONE), {"a": "k", "b": "k"}, ["k"]), ["a", "b", "a"], ["a", "b"])]:
            row, beside = plain_steps(setting, one), plain_steps(setting, other)
            every = differences(row, beside, 3)
            for turn in turns:
                for step in [("even", "a"), ("odd", "a"), ("even", "b"), ("odd", "b"), "a", "b", None]:
                    self.same(is_difference(setting, one, other, (turn, step)), (tuple(turn), step) in every)

    def test_of_two_empty_lists_and_of_one(self):
        self.tells(None, difference, SETTING, [], [])
        self.tells(([], ("even", "a")), difference, SETTING, [], ["a"])
        self.tells(([], ("even", "a")), difference, other=[], one=["a"], setting=SETTING)
        for value in [([], ("even", "a")), ([], ("even", "b")), (["ahead"], ("even", "a")), None, ([], None)]:
            self.tells(False, is_difference, SETTING, [], [], value)
        self.tells(True, is_difference, SETTING, [], ["a"], ([], ("even", "a")))
        self.tells(False, is_difference, SETTING, [], ["a"], ([], ("odd", "a")))
        self.tells(False, is_difference, SETTING, [], ["a", "a"], (["ahead"], ("even", "a")))
        self.tells(False, is_difference, SETTING, ["a", "a"], [], (["behind"], ("odd", "a")))
        self.tells(False, is_difference, SETTING, ["a"], ["a", "a"], (["ahead", "ahead"], ("even", "a")))
        self.tells(False, is_difference, SETTING, ["a", "a"], ["a"], (["ahead", "ahead"], ("even", "a")))
        self.tells(True, is_difference, SETTING, ["a"], ["a", "a"], (["ahead"], ("even", "a")))
        self.tells(False, is_difference, SETTING, ["a"], ["a", "a"], (["behind"], ("even", "a")))
        self.tells(True, is_difference, SETTING, ["a"], ["a", "a"], (["behind"], ("odd", "a")))

    def test_any_object_is_judged(self):
        step = ("even", "a")
        for value in odd_objects() + [([], "even"), ([], ["even", "a"]), ((), step), ([], step, 0), [[], step],
                                      ([step],), (["Ahead"], step), (["ahead", None], step), ([True], step),
                                      ("ahead", step),
                                      ([["ahead"]], step), ({}, step), ([], ("even", "a", 0)), ([], ("a", "even")),
                                      ([], {"even": "a"}), ([], SETTING), (SETTING, step), ([SETTING], step),
                                      (None, step), ([], None), ([], []), ({"ahead": 1}, step)]:
            self.tells(False, is_difference, SETTING, ["a"], ["b", "a"], value)
            self.tells(False, is_difference, value=value, other=["a"], one=["b", "a", "b"], setting=SETTING)
        self.tells(True, is_difference, SETTING, [], ["b", "a"], ([], step))

    def test_no_object_is_one_where_the_setting_is_not_plain(self):
        for setting in not_plain():
            deed = list(setting.deeds())[0]
            for step in [deed] + [(kind, deed) for kind in setting.kinds().words()]:
                self.tells(False, is_difference, setting, [], [deed], ([], step))
                self.tells(False, is_difference, setting, [deed], [deed, deed], (["ahead"], step))

    def test_logs_of_sixty(self):
        for table in GROUPS + ALL_SQUARES:
            setting = whole(table)
            deeds = list(setting.deeds())
            log = long_log(setting, 60)
            for other in (log[::-1], log[1:], (deeds * 60)[:60], [deeds[-1]] * 60, []):
                told = self.told(difference, setting, log, other)
                self.same(told is None, are_alike(setting, log, other))
                self.tells(told is not None, is_difference, setting, log, other, told)
                if told is not None:
                    self.tells(True, is_difference, setting, other, log, told)

    def test_wrong_ones(self):
        for value in (([], ("even", "a")), None):
            good = {"setting": SETTING, "one": ["a"], "other": ["b"], "value": value}
            self.wrong_one_by_one(is_difference, good, FEW)


if __name__ == "__main__":
    unittest.main()
