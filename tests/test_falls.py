"""[60] to [64]: days of falls, what is done on them, and a chain back to the log that was meant."""

import itertools
import unittest

from kindtwice.alike import are_alike
from kindtwice.doublings import is_doubling
from kindtwice.errors import (Endless, InvalidCount, InvalidFalls, InvalidLog, InvalidMarks, InvalidSetting, Refused)
from kindtwice.falls import (begins, chain_back, costliest, done_log, harmful_falls, is_chain_back, is_costliest,
                             is_day, is_harmless, many_days, many_done)
from kindtwice.kinds import Kinds
from kindtwice.marks import any_marks, is_covered
from kindtwice.settings import with_twice
from kindtwice.small import least
from tests.days import all_days, all_marks, day_of
from tests.helping import (ONE, SETTING, Case, free, long_log, no_counts, no_days, no_lists_of_words, no_logs,
                           no_marks, no_settings, odd_objects, rows_of)
from tests.plain import halved
from tests.test_marks import SETTINGS, some_logs
from tests.test_small import DULL_PQ, DULL_QP, ENDLESS, SWAPPED

WORDS = ["any", "word", "a", "any"]
LOG = ["b", "b", "a", "a", "b"]
NO_WORDS = {"log": (InvalidLog, no_lists_of_words()[::3]), "marks": (InvalidMarks, no_marks(2)[::3]),
            "falls": (InvalidFalls, no_days(2)[::3]), "number": (InvalidCount, no_counts(0)[::3])}
WRONG = dict(NO_WORDS, setting=(InvalidSetting, no_settings()[::4]), log=(InvalidLog, no_logs()[::4]))
SMALL = [SETTING, SWAPPED, DULL_PQ, DULL_QP, free("ab"), free("a")]


def covering(setting, log):
    """All marks that cover a log."""
    return [marks for marks in all_marks(len(log)) if is_covered(setting, log, marks)]


class Days(Case):
    """[60], [61]: is_day, begins, done_log, many_done."""

    def test_by_the_words(self):
        for many in range(4):
            log = WORDS[:many]
            for marks in all_marks(many):
                for number in range(4):
                    for falls in itertools.product(range(many + 2), repeat=number):
                        told = day_of(log, marks, falls)
                        self.same(is_day(log, marks, list(falls)), told is not None)
                        if told is not None:
                            self.same(begins(log, marks, list(falls)), told[1])
                            self.same(done_log(log, marks, list(falls)), told[0])
                            self.same(many_done(log, marks, list(falls)), len(told[0]))

    def test_days_without_falls(self):
        for log in ([], WORDS, ["a"] * 60):
            for marks in ([0], list(range(len(log) + 1))):
                self.tells(True, is_day, log, marks, [])
                self.tells([], begins, log, marks, [])
                self.tells(log, done_log, falls=[], marks=marks, log=log)
                self.tells(len(log), many_done, log, marks, [])

    def test_the_empty_log(self):
        self.tells(True, is_day, [], [0], [0, 0, 0])
        self.tells([0, 0, 0], begins, [], [0], [0, 0, 0])
        self.tells([], done_log, [], [0], [0, 0])
        self.tells(0, many_done, [], [0], [0])
        self.tells(False, is_day, [], [0], [1])

    def test_falls_at_marks_at_nought_and_at_the_end(self):
        marks = [0, 2, 3]
        for fall, mark in enumerate([0, 0, 2, 3, 3]):
            self.tells([mark], begins, WORDS, marks, [fall])
            self.tells(WORDS[:fall] + WORDS[mark:], done_log, WORDS, marks, [fall])
        self.tells([3, 3, 3], begins, WORDS, marks, [4, 3, 4])
        self.tells(["any", "word", "a", "any", "any", "any"], done_log, WORDS, marks, [4, 3, 4])
        self.tells(False, is_day, WORDS, marks, [4, 2])
        self.tells(False, is_day, WORDS, marks, [2, 1])
        self.tells(True, is_day, WORDS, marks, [1, 1, 0, 0])
        self.tells(False, is_day, WORDS, marks, [5])

    def test_by_hand(self):
        self.tells([0, 4], begins, LOG, [0, 3, 4], [2, 5])
        self.tells(["b", "b", "b", "b", "a", "a", "b", "b"], done_log, LOG, [0, 3, 4], [2, 5])
        self.tells(8, many_done, falls=[2, 5], marks=[0, 3, 4], log=LOG)

    def test_many_falls(self):
        log = long_log(SETTING, 60)
        for falls in ([60] * 12, [5, 9, 3, 59, 20, 41] * 2, list(range(5, 60, 5))):
            marks = [0, 10, 20, 40, 50, 55, 60] if falls == sorted(falls) else [0]
            done, begun = day_of(log, marks, falls)
            self.tells(done, done_log, log, marks, falls)
            self.tells(begun, begins, log, marks, falls)
            self.tells(len(done), many_done, log, marks, falls)

    def test_any_object_is_judged(self):
        for value in no_days(2) + [[2, 3], [3], [0, 0, -1]]:
            self.tells(False, is_day, ["a", "b"], [0], value)
        self.tells(True, is_day, ["a", "b"], [0], [1, 2])
        self.tells(False, is_day, ["a", "b"], [0, 2], [2, 1])

    def test_wrong_ones(self):
        for value in ([0], None):
            good = {"log": ["x", "y"], "marks": [0], "value": value}
            self.wrong_one_by_one(is_day, good, NO_WORDS)
        for function in (begins, done_log, many_done):
            self.wrong_one_by_one(function, {"log": ["x", "y"], "marks": [0], "falls": [1]}, NO_WORDS)
            for log in no_lists_of_words():
                self.raises(InvalidLog, log, function, log, [0], [])
            for marks in no_marks(2):
                self.raises(InvalidMarks, marks, function, ["x", "y"], marks, [])
            for falls in no_days(2):
                self.raises(InvalidFalls, falls, function, ["x", "y"], [0], falls)


class ChainsBack(Case):
    """[62]: chain_back, is_chain_back."""

    def check(self, setting, log, marks, falls):
        chain = self.told(chain_back, setting, log, marks, falls)
        done, begun = day_of(log, marks, falls)
        self.same([chain[0], chain[-1]], [done, log])
        self.assertEqual(len(chain) - 1, sum(mark < fall for fall, mark in zip(falls, begun)))
        for ahead, other in zip(chain, chain[1:]):
            self.same(is_doubling(setting, other, ahead), True)
        self.tells(True, is_chain_back, setting, log, marks, falls, chain)
        return chain

    def test_all_days_of_short_logs(self):
        for setting in SETTINGS[::3] + [SETTING]:
            for log in some_logs(setting, 4)[::2]:
                for marks in covering(setting, log)[::2]:
                    for falls in all_days(log, marks, 2)[::2] + all_days(log, marks, 1) + all_days(log, marks, 3)[::17]:
                        chain = self.check(setting, log, marks, falls)
                        for ahead, other in zip(chain, chain[1:]):
                            self.assertIn(tuple(other), halved(setting, ahead))

    def test_marks_that_do_not_cover(self):
        for setting in SETTINGS[::2]:
            for log in some_logs(setting, 4):
                for marks in all_marks(len(log)):
                    if not is_covered(setting, log, marks):
                        self.raises(Refused, marks, chain_back, setting, log, marks, [])
                        self.raises(Refused, marks, chain_back, falls=[len(log)], marks=marks, log=log, setting=setting)
                        # The list alone is judged.
                        self.tells(True, is_chain_back, setting, log, marks, [], [log])
        # The fall between marks that do not cover may redo a stretch that may be done twice.
        self.tells(True, is_chain_back, SETTING, ["b", "a"], [0], [1], [["b", "b", "a"], ["b", "a"]])
        self.tells(False, is_chain_back, SETTING, ["b", "a"], [0], [2], [["b", "a", "b", "a"], ["b", "a"]])

    def test_falls_that_redo_and_such_that_do_not(self):
        marks = [0, 3, 4]
        self.same(self.check(SETTING, LOG, marks, [2, 5]),
                  [["b", "b", "b", "b", "a", "a", "b", "b"], ["b", "b", "b", "b", "a", "a", "b"], LOG])
        self.same(self.check(SETTING, LOG, marks, [0, 0, 3, 3, 4]), [LOG])
        self.same(self.check(SETTING, LOG, marks, [0, 2, 3, 5, 4]),
                  [["b", "b", "b", "b", "a", "a", "b", "b"], ["b", "b", "b", "b", "a", "a", "b"], LOG])
        self.same(self.check(SETTING, LOG, marks, []), [LOG])
        self.same(self.check(SETTING, [], [0], [0, 0]), [[]])

    def test_bent_chains(self):
        marks, falls = [0, 3, 4], [2, 1, 5]
        chain = self.check(SETTING, LOG, marks, falls)
        self.assertEqual(len(chain), 4)
        bent = [chain[::-1], chain[1:], chain[:-1], chain + [LOG], [chain[0]] + chain, chain[:2] + chain[3:], [LOG],
                [], [chain[0], LOG], tuple(chain), [tuple(log) for log in chain], chain[:1] + chain[2:3] + chain[2:],
                chain[:1] * 4, chain[:3] + [chain[3][:4]], chain[:3] + [LOG[::-1]], [chain[0] + ["b"]] + chain[1:],
                chain[:1] + [["b", "b", "a", "a", "b", "b", "b"]] + chain[2:], chain[:2] + [None] + chain[3:],
                chain[:2] + [["c"]] + chain[3:], {0: chain}, None, True, chain[0], "".join(chain[0])]
        for value in bent:
            self.tells(False, is_chain_back, SETTING, LOG, marks, falls, value)
        # Any halvings are good, not those of the falls alone.
        other = [chain[0], ["b", "b", "b", "a", "a", "b", "b"], ["b", "b", "b", "a", "a", "b"], LOG]
        self.tells(True, is_chain_back, SETTING, LOG, marks, falls, other)

    def test_chains_of_other_days_and_to_other_logs(self):
        log, marks = ["b", "b", "a", "b", "b"], [0, 3]
        days = [day for number in (1, 2) for day in all_days(log, marks, number)]
        chains = [chain_back(SETTING, log, marks, falls) for falls in days]
        for falls in days:
            for chain in chains:
                steps = sum(mark < fall for fall, mark in zip(falls, begins(log, marks, falls)))
                wanted = chain[0] == done_log(log, marks, falls) and len(chain) - 1 == steps
                self.same(is_chain_back(SETTING, log, marks, falls, chain), wanted)
        # The done log has another halving, too, that is not the log.
        done = done_log(log, marks, [2])
        self.assertIn(["b", "b", "b", "b", "a", "b"], [list(other) for other in halved(SETTING, done)])
        self.tells(False, is_chain_back, SETTING, log, marks, [2], [done, ["b", "b", "b", "b", "a", "b"]])
        self.tells(True, is_chain_back, SETTING, log, marks, [2], [done, log])

    def test_endless_settings(self):
        for setting in ENDLESS:
            log = long_log(setting, 5)
            marks = any_marks(setting, log)
            for falls in all_days(log, marks, 2)[::3]:
                self.check(setting, log, marks, falls)

    def test_sixty_deeds_and_twelve_falls(self):
        for setting in SETTINGS:
            log = long_log(setting, 60)
            marks = any_marks(setting, log)
            falls = []
            for point in (3, 9, 7, 20, 31, 30, 44, 44, 59, 60, 60, 60):
                falls.append(max([point] + [mark for mark in marks if falls and mark <= falls[-1]]))
            self.check(setting, log, marks, falls)

    def test_any_object_is_judged(self):
        for setting in (SETTING, with_twice(SETTING, [])):
            for value in odd_objects() + no_logs():
                if value != [[]]:
                    self.tells(False, is_chain_back, setting, ["a", "b"], [0], [1], value)
            self.tells(False, is_chain_back, setting, ["a", "b"], [0], [], [["a", "b"], ["a", "b"]])

    def test_wrong_ones(self):
        good = {"setting": SETTING, "log": ["b", "b"], "marks": [0], "falls": [1]}
        self.wrong_one_by_one(chain_back, good, WRONG)
        for value in (None, [["b", "b", "b"], ["b", "b"]]):
            self.wrong_one_by_one(is_chain_back, dict(good, value=value), WRONG)
        # Marks that do not cover are refused behind wrong falls.
        for falls in no_days(2):
            self.raises(InvalidFalls, falls, chain_back, SETTING, ["a", "a"], [0], falls)
        marks = [0]
        self.raises(Refused, marks, chain_back, SETTING, ["a", "a"], marks, [1])


class Harm(Case):
    """[63]: harmful_falls, is_harmless."""

    def test_each_fall_alone(self):
        for setting in SMALL:
            for log in some_logs(setting, 4)[::3]:
                for marks in all_marks(len(log))[::4]:
                    wanted = [fall for fall in range(len(log) + 1) if log and
                              least(setting, day_of(log, marks, [fall])[0]) != least(setting, log)]
                    self.tells(wanted, harmful_falls, setting, log, marks)
                    self.tells(wanted == [], is_harmless, setting, log, marks)

    def test_marks_that_cover_are_harmless(self):
        for setting in SMALL:
            for log in some_logs(setting, 5)[::2] + [long_log(setting, 60)]:
                for marks in [list(range(len(log) + 1)), any_marks(setting, log)]:
                    self.tells([], harmful_falls, setting, log, marks)
                    self.tells(True, is_harmless, marks=marks, log=log, setting=setting)

    def test_others_may_be_harmless(self):
        # The mark 1 is needed to cover, but what is done again is swallowed by what follows.
        self.same(is_covered(DULL_PQ, ["p", "p"], [0]), False)
        found = 0
        for log in rows_of(["p", "q"], 4) + rows_of(["p", "q"], 5):
            for marks in all_marks(len(log)):
                if not is_covered(DULL_PQ, log, marks) and is_harmless(DULL_PQ, log, marks):
                    found += 1
        self.assertGreater(found, 0)

    def test_by_hand(self):
        self.tells([1], harmful_falls, SETTING, ["a"], [0])
        self.tells([], harmful_falls, SETTING, ["b"], [0])
        self.tells([], harmful_falls, SETTING, [], [0])
        self.tells(True, is_harmless, SETTING, [], [0])
        self.tells([1], harmful_falls, DULL_PQ, ["p", "q"], [0])
        self.same(are_alike(SETTING, ["a", "a"], ["a", "a", "a"]), False)
        self.tells([1], harmful_falls, SETTING, ["a", "a"], [0])
        self.tells(False, is_harmless, SETTING, ["a", "a"], [0])

    def test_endless_and_wrong_ones(self):
        for function in (harmful_falls, is_harmless):
            for setting in ENDLESS:
                self.raises(Endless, setting, function, setting, [], [0])
                self.raises(Endless, setting, function, marks=[0], log=long_log(setting, 3), setting=setting)
            for setting in (SETTING, with_twice(SETTING, [])):
                self.wrong_one_by_one(function, {"setting": setting, "log": ["a", "b"], "marks": [0]}, WRONG)


class Costs(Case):
    """[64]: many_days, costliest, is_costliest."""

    def test_against_all_days(self):
        for many in range(5):
            log = (WORDS + WORDS)[:many]
            for marks in all_marks(many):
                for number in range(4):
                    days = all_days(log, marks, number)
                    self.tells(len(days), many_days, log, marks, number)
                    most = max(len(day_of(log, marks, falls)[0]) for falls in days)
                    best = [falls for falls in days if len(day_of(log, marks, falls)[0]) == most]
                    self.assertIn(self.told(costliest, log, marks, number), best)
                    for falls in days[::5] + best:
                        self.same(is_costliest(log, marks, number, falls), falls in best)

    def test_number_nought(self):
        for log in ([], WORDS):
            self.tells(1, many_days, log, [0], 0)
            self.tells([], costliest, log, [0], 0)
            self.tells(True, is_costliest, log, [0], 0, [])
            self.tells(False, is_costliest, log, [0], 0, [0])

    def test_twelve_falls(self):
        for log, marks in ((["a"] * 60, [0]), (["a"] * 60, [0, 30, 60]), (["a"] * 60, list(range(0, 60, 3))),
                           (WORDS, [0, 1, 2, 3, 4]), ([], [0])):
            falls = self.told(costliest, log, marks, 12)
            self.assertEqual(len(falls), 12)
            self.tells(True, is_costliest, log, marks, 12, falls)
            self.tells(False, is_costliest, log, marks, 11, falls)
            self.tells(False, is_costliest, log, marks, 12, falls[1:])
            self.same(many_done(log, marks, falls), len(day_of(log, marks, falls)[0]))
        self.tells([60] * 12, costliest, ["a"] * 60, [0], 12)
        self.tells(61 ** 12, many_days, ["a"] * 60, [0], 12)
        self.tells(1, many_days, [], [0], 12)
        # Just behind the last mark the most is lost: so far and no further.
        self.tells([29] * 12, costliest, ["a"] * 31, [0, 30], 12)

    def test_numbers_to_twelve_with_a_mark_at_every_point(self):
        # The falls' points never go down: so many lists of points that ascend, doubles among them.
        for number, wanted in enumerate([1, 3, 6, 10, 15, 21, 28, 36, 45, 55, 66, 78, 91]):
            self.tells(wanted, many_days, ["x", "y"], [0, 1, 2], number)

    def test_any_object_is_judged(self):
        for value in no_days(2) + [[2], [0, 0, 0]]:
            self.tells(False, is_costliest, ["x", "y"], [0], 2, value)
        self.tells(True, is_costliest, value=[2, 2], number=2, marks=[0], log=["x", "y"])
        self.tells(False, is_costliest, ["x", "y"], [0], 2, [2, 1])
        self.tells(False, is_costliest, ["x", "y"], [0], 2, (2, 2))
        for value in ([True, 2], [2, Kinds(ONE)]):
            self.tells(False, is_costliest, ["x", "y"], [0], 2, value)

    def test_wrong_ones(self):
        for function in (many_days, costliest):
            self.wrong_one_by_one(function, {"log": ["x", "y"], "marks": [0], "number": 2}, NO_WORDS)
            for number in no_counts(0):
                self.raises(InvalidCount, number, function, ["x", "y"], [0], number)
        for value in (None, [2]):
            good = {"log": ["x", "y"], "marks": [0], "number": 1, "value": value}
            self.wrong_one_by_one(is_costliest, good, NO_WORDS)


if __name__ == "__main__":
    unittest.main()
