"""[55] to [59]: marks that cover a log, the fewest of them, and bounds that show that none are fewer."""

import itertools
import random
import unittest

from kindtwice.errors import InvalidCount, InvalidLog, InvalidMarks, InvalidPlace, InvalidSetting
from kindtwice.kinds import Kinds, own_squares
from kindtwice.marks import (any_marks, are_bounds, are_fewest, are_marks, bounds, fewest_marks, is_covered,
                             many_fewest, marks_at, open_points, reach, sure_marks)
from kindtwice.settings import Setting, with_twice
from tests.days import all_marks, fewest_in, let_jumps, may_twice, open_in, reached_by
from tests.helping import (CHAIN, CORNERS, DULL, KLEIN, LONG, ONE, PARITY, SETTING, Case, free, long_log,
                           no_counts, no_lists_of_words, no_logs, no_marks, no_settings, odd_objects, once_again,
                           rows_of, some_setting, subsets)

TABLES = (ONE, PARITY, DULL, CHAIN, CORNERS, KLEIN, LONG, once_again(1, 3), once_again(2, 2))


# Behind a b an a tells no kind in twice: of b a b a .. there are 2 ** 30 lists of the fewest marks for 60 deeds.
CHOICES = Setting(Kinds({(one, other): word for one, told in zip("abcd", ("abcd", "dbcd", "cccc", "dbcd"))
                         for other, word in zip("abcd", told)}), {word: word for word in "abcd"}, ["a", "b", "c"])


def settings_of(table):
    return [with_twice(some_setting(table), twice) for twice in subsets(own_squares(Kinds(table)))]


SETTINGS = [SETTING, CHOICES, with_twice(SETTING, []), free("ab"), free("ab", [])] + [
    setting for table in TABLES for setting in settings_of(table)[-1:] + settings_of(table)[1:2]]
WRONG = {"setting": (InvalidSetting, no_settings()[::3]), "log": (InvalidLog, no_logs()[::3]),
         "marks": (InvalidMarks, no_marks(2)[::3]), "number": (InvalidCount, no_counts(0) + [1, 99])}


def some_logs(setting, most):
    """The empty log, all logs of one deed, some short ones, and one that mixes the deeds."""
    deeds = list(setting.deeds())
    return [[]] + rows_of(deeds, 1) + rows_of(deeds[:3], 3)[::5] + rows_of(deeds[-2:], most)[::7] + [
        long_log(setting, most)]


class Marks(Case):
    """[55]: are_marks, is_covered."""

    def test_all_lists_of_points(self):
        for many in range(4):
            log = ["a", "b", "zz"][:many]
            wanted = all_marks(many)
            for number in range(4):
                for points in itertools.product(range(-1, 5), repeat=number):
                    self.same(are_marks(log, list(points)), list(points) in wanted)

    def test_any_list_of_words(self):
        self.tells(True, are_marks, ["any", "words"], [0, 2])
        self.tells(True, are_marks, value=[0, 1], log=["x"])
        self.tells(True, are_marks, [], [0])
        self.tells(False, are_marks, [], [0, 1])
        self.tells(False, are_marks, [], [])
        self.tells(True, are_marks, ["a"] * 60, list(range(61)))
        self.tells(False, are_marks, ["a"] * 60, list(range(62)))

    def test_any_object_is_judged(self):
        for log in (["a", "b"], ["c", "d"]):
            for value in no_marks(2):
                self.tells(False, are_marks, log, value)
        self.tells(True, are_marks, ["a", "b"], [0])

    def test_wrong_ones(self):
        self.wrong_one_by_one(are_marks, {"log": ["x"], "value": [0]}, {"log": (InvalidLog, no_lists_of_words())})
        wrong = {"setting": (InvalidSetting, no_settings()[::3]), "log": (InvalidLog, no_logs()[::3]),
                 "marks": (InvalidMarks, no_marks(2)[::3])}
        for function in (is_covered, open_points):
            self.wrong_one_by_one(function, {"setting": SETTING, "log": ["a", "b"], "marks": [0]}, wrong)
            for marks in no_marks(2):
                self.raises(InvalidMarks, marks, function, SETTING, ["a", "b"], marks)

    def test_covered_by_the_words(self):
        for setting in SETTINGS:
            for log in some_logs(setting, 5):
                for marks in all_marks(len(log))[::2] + [[0], list(range(len(log) + 1))]:
                    wanted = open_in(setting, log, marks)
                    self.tells(wanted, open_points, setting, log, marks)
                    self.tells(wanted == [], is_covered, setting, log, marks)

    def test_all_points_together_always_cover(self):
        for setting in SETTINGS:
            log = long_log(setting, 60)
            self.tells(True, is_covered, setting, log, list(range(61)))
            self.tells([], open_points, setting, log, list(range(61)))

    def test_kinds_in_twice_and_not(self):
        self.tells(True, is_covered, SETTING, ["b", "b"], [0])
        self.tells(False, is_covered, with_twice(SETTING, []), ["b", "b"], [0])
        self.tells([(0, 1), (0, 2)], open_points, with_twice(SETTING, []), ["b", "b"], [0])
        self.tells([(0, 1)], open_points, SETTING, ["a", "a"], [0])
        self.tells([(1, 2)], open_points, marks=[0, 1], log=["a", "a"], setting=SETTING)
        self.tells([], open_points, SETTING, [], [0])
        self.tells(True, is_covered, marks=[0], log=[], setting=SETTING)
        self.tells([(0, 3)], open_points, SETTING, ["b", "b", "a", "a", "b"], [0, 4])


class Reach(Case):
    """[56]: reach."""

    def test_by_the_words(self):
        for setting in SETTINGS:
            for log in some_logs(setting, 5):
                end = len(log)
                for point in range(end + 1):
                    if all(may_twice(setting, log, point, later) for later in range(point + 1, end + 1)):
                        wanted = None
                    else:
                        wanted = max(mark for mark in range(point + 1, end + 1)
                                     if all(may_twice(setting, log, point, later)
                                            for later in reached_by(point, [point, mark], end)))
                    self.tells(wanted, reach, setting, log, point)

    def test_by_hand(self):
        log = ["b", "b", "a", "a", "b"]
        for point, wanted in enumerate([3, 3, 3, 4, None, None]):
            self.tells(wanted, reach, SETTING, log, point)
        self.tells(None, reach, point=0, log=[], setting=SETTING)
        self.tells(1, reach, SETTING, ["a"], 0)
        self.tells(None, reach, SETTING, ["b"], 0)
        self.tells(60, reach, SETTING, ["b"] * 59 + ["a"], 0)
        self.tells(None, reach, SETTING, ["b"] * 60, 0)

    def test_wrong_ones(self):
        points = no_counts(0) + [3, 10 ** 30, [0], (0,)]
        wrong = {"setting": (InvalidSetting, no_settings()[::3]), "log": (InvalidLog, no_logs()[::3]),
                 "point": (InvalidPlace, points)}
        self.wrong_one_by_one(reach, {"setting": SETTING, "log": ["a", "b"], "point": 2}, wrong)
        self.raises(InvalidPlace, 1, reach, SETTING, [], 1)


class Fewest(Case):
    """[57], [59]: fewest_marks, any_marks, are_fewest, many_fewest, marks_at, sure_marks."""

    def check(self, setting, log, wanted):
        """All that is told of the fewest marks, beside all lists of them."""
        self.tells(len(wanted[0]), fewest_marks, setting, log)
        self.tells(len(wanted), many_fewest, setting, log)
        self.assertIn(self.told(any_marks, setting, log), wanted)
        self.same([marks_at(setting, log, number) for number in range(len(wanted))], wanted)
        self.raises(InvalidCount, len(wanted), marks_at, setting, log, len(wanted))
        self.tells([point for point in range(len(log) + 1) if all(point in marks for marks in wanted)], sure_marks,
                   setting, log)

    def test_against_all_lists(self):
        for setting in SETTINGS:
            for log in some_logs(setting, 6):
                self.check(setting, log, fewest_in(setting, log))

    def test_all_logs_of_seven_deeds(self):
        for log in rows_of(["a", "b"], 7)[::9]:
            self.check(SETTING, log, fewest_in(SETTING, log))

    def test_all_lists_are_judged(self):
        for setting in SETTINGS[::2]:
            for log in some_logs(setting, 4):
                wanted = fewest_in(setting, log)
                for marks in all_marks(len(log)):
                    self.same(are_fewest(setting, log, marks), marks in wanted)
                    self.same(are_fewest(setting, log, tuple(marks)), False)
                    self.same(are_fewest(setting, log, marks[1:]), False)

    def test_no_mark_but_nought(self):
        for setting, log in ((SETTING, []), (SETTING, ["b"] * 9), (free("ab"), ["a", "b"] * 30), (SETTING, ["b"])):
            self.tells(1, fewest_marks, setting, log)
            self.tells([0], any_marks, setting, log)
            self.tells(1, many_fewest, setting, log)
            self.tells([0], sure_marks, setting, log)
            self.tells([0], marks_at, setting, log, 0)

    def test_a_mark_at_every_point(self):
        for setting, log in ((free("ab", []), ["a", "b"] * 3), (SETTING, ["a"] * 60),
                             (with_twice(SETTING, []), ["b", "a"] * 30)):
            every = list(range(len(log) + 1))
            self.tells(len(every), fewest_marks, setting, log)
            self.tells(every, any_marks, setting, log)
            self.tells(1, many_fewest, log=log, setting=setting)
            self.tells(every, sure_marks, setting, log)
            self.tells(every, marks_at, number=0, log=log, setting=setting)
            self.tells(True, are_fewest, setting, log, every)

    def test_many_lists(self):
        for number in range(9):
            log = (["b", "a"] * 5)[:number]
            self.check(CHOICES, log, fewest_in(CHOICES, log))
        log = ["b", "a"] * 30
        many = 2 ** 30
        self.tells(many, many_fewest, CHOICES, log)
        for number in (many, many + 1, 10 ** 30, -1, True, None):
            self.raises(InvalidCount, number, marks_at, CHOICES, log, number)
        chance = random.Random(5)
        numbers = [0, 1] + sorted(chance.sample(range(2, many - 1), 20)) + [many - 1]
        told = [self.told(marks_at, CHOICES, log, number) for number in numbers]
        self.assertTrue(all(one < other for one, other in zip(told, told[1:])))
        sure = self.told(sure_marks, CHOICES, log)
        for marks in told:
            self.same(are_fewest(CHOICES, log, marks), True)
            self.assertLessEqual(set(sure), set(marks))
        for point in set(told[0]) - set(sure):
            self.assertTrue(any(point not in marks for marks in told), point)

    def test_by_hand(self):
        log = ["b", "b", "a", "a", "b"]
        self.tells(3, fewest_marks, SETTING, log)
        self.tells([0, 3, 4], any_marks, SETTING, log)
        self.tells(1, many_fewest, SETTING, log)
        self.tells([0, 3, 4], sure_marks, SETTING, log)
        self.check(SETTING, ["b", "a", "b", "b"], [[0, 2]])
        self.check(SETTING, ["a", "b", "a"], [[0, 1, 3]])
        self.check(SETTING, ["a"], [[0, 1]])
        self.check(SETTING, [], [[0]])

    def test_any_object_is_judged(self):
        for setting in (SETTING, with_twice(SETTING, [])):
            for value in no_marks(2):
                self.tells(False, are_fewest, setting, ["a", "b"], value)
        self.tells(False, are_fewest, SETTING, ["a", "b"], [0])
        self.tells(True, are_fewest, value=[0, 1], log=["a", "b"], setting=SETTING)
        self.tells(False, are_fewest, SETTING, ["a", "b"], [0, 1, 2])
        self.tells(False, are_fewest, SETTING, ["a", "b"], [0, 2])
        self.tells(False, are_fewest, SETTING, ["a"], [False, 1])

    def test_wrong_ones(self):
        for function in (fewest_marks, any_marks, many_fewest, sure_marks, bounds):
            self.wrong_one_by_one(function, {"setting": SETTING, "log": ["a", "b"]}, WRONG)
        self.wrong_one_by_one(marks_at, {"setting": SETTING, "log": ["b"], "number": 0}, WRONG)
        for function, value in ((are_fewest, [0, 1]), (are_bounds, {0: 0, 1: 1, 2: 1, 3: 2})):
            for judged in (value, None):
                self.wrong_one_by_one(function, {"setting": SETTING, "log": ["a", "b"], "value": judged}, WRONG)


class Bounds(Case):
    """[58]: bounds, are_bounds."""

    def are_so(self, setting, log, value):
        return value[0] == 0 and all(value[last] <= value[first] + 1 for first, last in let_jumps(setting, log))

    def test_bounds_are_such_and_tell_the_fewest(self):
        for setting in SETTINGS:
            for log in some_logs(setting, 6) + [long_log(setting, 60)]:
                value = self.told(bounds, setting, log)
                self.assertEqual(list(value), list(range(len(log) + 2)))
                if len(log) < 9:
                    self.assertEqual(value[len(log) + 1], len(fewest_in(setting, log)[0]))
                    self.assertTrue(self.are_so(setting, log, value))
                self.assertEqual(value[len(log) + 1], fewest_marks(setting, log))
                self.tells(True, are_bounds, setting, log, value)
                self.tells(True, are_bounds, setting, log, {number: value[number] for number in sorted(value)[::-1]})

    def test_one_count_too_great(self):
        for setting in SETTINGS:
            for log in some_logs(setting, 4):
                value = bounds(setting, log)
                for number in value:
                    for count in (0, 1, 2, value[number] + 1, value[number] + 5, 10 ** 30):
                        changed = dict(value)
                        changed[number] = count
                        self.same(are_bounds(setting, log, changed), self.are_so(setting, log, changed))
                # At the end none of the fewest marks may be missed.
                changed = dict(value)
                changed[len(log) + 1] += 1
                self.tells(False, are_bounds, setting, log, changed)

    def test_all_small_counts(self):
        for setting, log in ((SETTING, ["b", "a"]), (SETTING, ["a", "b"]), (SETTING, ["b"]), (SETTING, []),
                             (free("ab", []), ["a", "b"]), (free("ab"), ["a", "b"])):
            for counts in itertools.product(range(4), repeat=len(log) + 2):
                value = dict(enumerate(counts))
                self.same(are_bounds(setting, log, value), self.are_so(setting, log, value))

    def test_all_noughts(self):
        for setting in SETTINGS:
            for log in ([], long_log(setting, 1), long_log(setting, 60)):
                self.tells(True, are_bounds, setting, log, {number: 0 for number in range(len(log) + 2)})

    def test_just_the_numbers(self):
        log = ["b", "a"]
        value = bounds(SETTING, log)
        for number in value:
            self.tells(False, are_bounds, SETTING, log, {key: value[key] for key in value if key != number})
        for more in (4, -1, None, "0", True, False, (0, 1)):
            changed = {key: value[key] for key in value if key != 1 or more is not True}
            if more is False:
                del changed[0]
            changed[more] = 0
            self.tells(False, are_bounds, SETTING, log, changed)
        for count in (True, False, None, -1, "0", [0], (0,), {}, Kinds(ONE), ["a"]):
            for number in value:
                self.tells(False, are_bounds, SETTING, log, value | {number: count})
        for more in (4, 9, 10 ** 30, -1):
            for number in value:
                self.tells(False, are_bounds, SETTING, log, {more if key == number else key: 0 for key in value})
        self.tells(False, are_bounds, SETTING, log, {0: 0, True: 0, 2: 0, 3: 0})
        self.tells(False, are_bounds, SETTING, log, {False: 0, 1: 0, 2: 0, 3: 0})
        self.tells(False, are_bounds, SETTING, log, {0: False, 1: 0, 2: 0, 3: 0})

    def test_any_object_is_judged(self):
        for setting in (SETTING, with_twice(SETTING, [])):
            for value in odd_objects() + [[0, 0, 0, 0], (0, 0, 0, 0), [(0, 0), (1, 0), (2, 0), (3, 0)], {0: 0}, {},
                                          {0: 0, 1: 0}, {(0, 1): 0}, {"0": 0, "1": 0, "2": 0, "3": 0}, SETTING]:
                self.tells(False, are_bounds, setting, ["b", "a"], value)

    def test_by_hand(self):
        self.tells({0: 0, 1: 1}, bounds, SETTING, [])
        self.tells(True, are_bounds, value={0: 0, 1: 1}, log=[], setting=SETTING)
        self.tells(False, are_bounds, SETTING, [], {0: 0, 1: 2})
        self.tells(True, are_bounds, SETTING, ["b", "b", "a", "a", "b"], {0: 0, 1: 1, 2: 1, 3: 1, 4: 2, 5: 3, 6: 3})
        self.tells(False, are_bounds, SETTING, ["b", "b", "a", "a", "b"], {0: 0, 1: 1, 2: 1, 3: 2, 4: 2, 5: 3, 6: 3})


if __name__ == "__main__":
    unittest.main()
