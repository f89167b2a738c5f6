"""[45], [46]: least logs of small settings, and the logs that are alike to one."""

import random
import unittest

from kindtwice.alike import are_alike, is_plain
from kindtwice.doublings import doublings, halvings
from kindtwice.endless import closed
from kindtwice.errors import Endless, InvalidCount, InvalidLog, InvalidSetting
from kindtwice.kinds import Kinds
from kindtwice.settings import Setting, kind_of, renamed, with_twice
from kindtwice.small import alike_logs, coming_logs, least, least_logs, many_unlike
from tests.helping import (CHAIN, CORNERS, DULL, FIRST_STAYS, LAST_STAYS, PARITY, SETTING, Case, free, long_log,
                           no_counts, no_logs, no_settings, odd_objects, rows_of, some_setting)
from tests.plain import alike_within, are_same, plain_steps

BOTH = {("b", "b"): "b", ("b", "t"): "b", ("t", "b"): "b", ("t", "t"): "t"}
DULL_PQ = Setting(Kinds(DULL), {"p": "x", "q": "z"}, ["z"])
DULL_QP = Setting(Kinds(DULL), {"p": "z", "q": "x"}, ["z"])
SWAPPED = Setting(Kinds(PARITY), {"a": "even", "b": "odd"}, ["even"])
# All settings that are small, but for the words: no others have at most three deeds and so few unlike logs, and of
# four deeds, whatever their kinds, there are 332,380 unlike logs at least.
COUNTS = [
    (free("p"), 1), (free("pq"), 6), (free("qzp"), 159), (SETTING, 185), (SWAPPED, 185), (DULL_PQ, 12), (DULL_QP, 12),
    (Setting(Kinds(BOTH), {"go": "t", "stay": "b"}, ["b", "t"]), 6),
    (Setting(Kinds(BOTH), {"a": "t", "b": "b", "ab": "t"}, ["b", "t"]), 159),
    (Setting(Kinds(FIRST_STAYS), {"x": "c", "y": "b", "z": "a"}, ["a", "b", "c"]), 159),
    (Setting(Kinds(LAST_STAYS), {"x": "c", "y": "b", "z": "a"}, ["a", "b", "c"]), 159),
]
FEW_COUNTS = [(setting, many) for setting, many in COUNTS if many < 20]
SOME = [setting for setting, many in COUNTS if many < 20] + [SETTING, free("qzp")]
# Endless ones: none of the own squares in twice, or some of them alone.
ENDLESS = [with_twice(SETTING, []), with_twice(DULL_PQ, []), free("pq", []), with_twice(some_setting(CHAIN), ["m"]),
           with_twice(some_setting(CORNERS), [])]


def by_length(logs):
    return sorted(logs, key=lambda log: (len(log), log))


def all_logs(setting, most):
    """All logs of at most so many deeds, by number of deeds, then ascending."""
    return [log for many in range(most + 1) for log in rows_of(list(setting.deeds()), many)]


def plain_least(setting):
    """All least logs of a plain setting, by the words of [43]."""
    found = []
    level = [[]]
    while level:
        further = []
        for log in level:
            for deed in sorted(setting.deeds()):
                told = plain_steps(setting, log + [deed])
                if not any(are_same(told, other) for _, other in found):
                    found.append((log + [deed], told))
                    further.append(log + [deed])
        level = further
    return [log for log, _ in found]


class Least(Case):
    """[45]: least, least_logs, many_unlike."""

    def test_how_many(self):
        for setting, many in COUNTS:
            self.tells(many, many_unlike, setting)
            self.tells(many, many_unlike, setting=setting)

    def test_all_of_plain_settings_in_their_order(self):
        for setting, many in COUNTS:
            if is_plain(setting):
                wanted = plain_least(setting)
                self.assertEqual(len(wanted), many)
                self.tells(wanted, least_logs, setting)

    def test_all_of_a_setting_that_is_not_plain(self):
        for setting, x, z in ((DULL_PQ, "p", "q"), (DULL_QP, "q", "p")):
            self.same(is_plain(setting), False)
            wanted = [[x], [z], [x, x], [x, z], [z, x], [x, x, z], [x, z, x], [z, x, x], [z, x, z], [x, x, z, x],
                      [x, z, x, x], [x, x, z, x, x]]
            self.tells(by_length(wanted), least_logs, setting)

    def test_against_a_plain_search_of_chains(self):
        # Of dull settings no log of four deeds needs a longer one on its way to its least one than of nine.
        for setting, number, most in ((DULL_PQ, 4, 9), (DULL_QP, 4, 9), (free("pq"), 4, 8), (SETTING, 4, 9),
                                      (free("pqr"), 2, 6)):
            for log in all_logs(setting, number)[1:]:
                alike = [list(other) for other in alike_within(setting, log, most)]
                self.same(least(setting, log), by_length(alike)[0])

    def test_they_are_least(self):
        for setting in SOME:
            logs = least_logs(setting)
            self.same(logs, by_length(logs))
            for log in logs[::25]:
                self.tells(log, least, setting, log)
            for log in logs[::70]:
                for deed in setting.deeds():
                    for other in (log + [deed], [deed] + log):
                        told = self.told(least, setting, other)
                        self.assertIn(told, logs)
                        self.assertLessEqual((len(told), told), (len(other), other))
                        self.assertEqual(kind_of(setting, told), kind_of(setting, other))
                        if is_plain(setting):
                            self.same(are_alike(setting, told, other), True)

    def test_alike_logs_have_one(self):
        chance = random.Random(7)
        for setting, _ in COUNTS:
            deeds = list(setting.deeds())
            for _ in range(2):
                log = [chance.choice(deeds) for _ in range(chance.randrange(1, 9))]
                wanted = self.told(least, setting, log)
                for _ in range(5):
                    further = [one for one in doublings(setting, log) if len(one) <= 14] + halvings(setting, log)
                    log = chance.choice(further) if further else log
                    self.same(least(setting, log), wanted)

    def test_a_log_of_sixty_deeds(self):
        for setting, _ in COUNTS:
            logs = least_logs(setting)
            for log in (long_log(setting, 60), list(setting.deeds())[:1] * 60, (list(setting.deeds()) * 30)[:60]):
                told = self.told(least, setting, log)
                self.assertIn(told, logs)
                self.same(least(setting, log + log[:1]), least(setting, told + log[:1]))
                if is_plain(setting):
                    self.same(are_alike(setting, told, log), True)

    def test_by_hand(self):
        self.tells(["b", "a"], least, SETTING, ["b", "b", "a"])
        self.tells(["q", "p", "q"], least, DULL_PQ, ["q", "p", "p", "q"])
        self.tells(["p", "q"], least, log=["p", "q", "p", "q"], setting=free("pq"))
        self.tells(["p", "p"], least, DULL_PQ, ["p", "p", "p"])
        self.tells([["p"]], least_logs, free("p"))
        self.tells(["p"], least, free("p"), ["p"] * 60)

    def test_names_tell_the_order_alone(self):
        sent = {"a": "zz", "b": "m"}
        told = least_logs(renamed(SETTING, sent))
        self.same(told, [[{"a": "m", "b": "zz"}[deed] for deed in log] for log in least_logs(SWAPPED)])
        self.tells(["m", "zz"], least, renamed(SETTING, sent), ["m", "m", "zz"])

    def test_the_empty_log_has_none(self):
        for setting, _ in COUNTS:
            empty = []
            self.raises(InvalidLog, empty, least, setting, empty)
            self.raises(InvalidLog, empty, coming_logs, setting, empty)
            self.raises(InvalidLog, empty, alike_logs, setting, empty, 3)
            self.raises(InvalidLog, empty, alike_logs, setting, empty, None)
        for setting in ENDLESS:
            self.raises(InvalidLog, empty, least, setting, empty)
            self.raises(InvalidLog, empty, coming_logs, log=empty, setting=setting)
            self.raises(InvalidLog, empty, alike_logs, setting, empty, 3)

    def test_endless_ones(self):
        for setting in ENDLESS:
            deed = list(setting.deeds())[0]
            self.raises(Endless, setting, least, setting, [deed])
            self.raises(Endless, setting, coming_logs, setting, [deed])
            self.raises(Endless, setting, alike_logs, setting, [deed], 0)
            self.raises(Endless, setting, alike_logs, number=3, log=[deed], setting=setting)
            self.raises(Endless, setting, least_logs, setting)
            self.raises(Endless, setting, many_unlike, setting=setting)

    def test_wrong_ones(self):
        for setting in (SETTING, with_twice(SETTING, [])):
            wrong = {"setting": (InvalidSetting, no_settings()), "log": (InvalidLog, no_logs() + [[]])}
            for function in (least, coming_logs):
                self.wrong_one_by_one(function, {"setting": setting, "log": ["a"]}, wrong)
            for function in (least_logs, many_unlike):
                self.wrong_one_by_one(function, {"setting": setting}, wrong)


class AlikeLogs(Case):
    """[46]: alike_logs."""

    def test_all_to_a_number(self):
        for setting in SOME:
            most = 3 if len(setting.deeds()) > 2 else 5
            logs = all_logs(setting, most)[1:]
            leasts = {tuple(log): least(setting, log) for log in logs}
            for log in logs[::11] + [long_log(setting, 13)]:
                own = least(setting, log)
                for number in (0, 1, most):
                    wanted = [one for one in logs if len(one) <= number and leasts[tuple(one)] == own]
                    self.tells(wanted, alike_logs, setting, log, number)

    def test_against_a_plain_search_of_chains(self):
        for setting, number, most in ((DULL_PQ, 4, 9), (DULL_QP, 4, 9), (free("pq"), 4, 8), (SETTING, 4, 9),
                                      (free("pqr"), 2, 6)):
            for log in all_logs(setting, 3)[1::2]:
                alike = [list(other) for other in alike_within(setting, log, most)]
                wanted = by_length([other for other in alike if len(other) <= number])
                self.tells(wanted, alike_logs, setting, log, number)

    def test_number_nought(self):
        for setting, _ in COUNTS:
            self.tells([], alike_logs, setting, list(setting.deeds()), 0)
            self.tells([], alike_logs, number=0, log=long_log(setting, 60), setting=setting)

    def test_ten_deeds(self):
        for setting in SOME:
            for log in (long_log(setting, 3), long_log(setting, 60)):
                told = alike_logs(setting, log, 10)
                self.same(told, by_length(told))
                self.assertEqual(len(set(map(tuple, told))), len(told))
                own = least(setting, log)
                if len(own) <= 10:
                    self.same(told[0], own)
                self.assertTrue(all(1 <= len(one) <= 10 for one in told))
                for one in told[::301]:
                    self.same(least(setting, one), own)

    def test_by_hand(self):
        self.tells([["p", "p"], ["p"] * 3, ["p"] * 4], alike_logs, DULL_PQ, ["p", "p"], 4)
        self.tells([["p"]], alike_logs, DULL_PQ, ["p"], 9)
        self.tells([["p"] * many for many in range(1, 11)], alike_logs, free("p"), ["p"] * 7, 10)

    def test_all_logs_are_alike_to_one_least(self):
        for setting, _ in FEW_COUNTS:
            told = [log for own in least_logs(setting) for log in alike_logs(setting, own, 5)]
            self.same(by_length(told), all_logs(setting, 5)[1:])

    def test_wrong_ones(self):
        wrong = {"setting": (InvalidSetting, no_settings()[::4]), "log": (InvalidLog, no_logs()[::4] + [[]]),
                 "number": (InvalidCount, no_counts(0)[::3])}
        for setting in (SETTING, with_twice(SETTING, [])):
            self.wrong_one_by_one(alike_logs, {"setting": setting, "log": ["a"], "number": 2}, wrong)
            for number in no_counts(0):
                self.raises(InvalidCount, number, alike_logs, setting, ["a"], number)


class ComingLogs(Case):
    """[46]: coming_logs."""

    def test_by_least_logs(self):
        for setting in SOME:
            for log in all_logs(setting, 3)[1::4] + [long_log(setting, 13), long_log(setting, 60)]:
                leasts = [least(setting, log * times) for times in range(1, 7)]
                pairs = [(lead, more - lead) for lead in range(1, 4) for more in range(lead + 1, 7)
                         if leasts[lead - 1] == leasts[more - 1]]
                wanted = (min(lead for lead, _ in pairs), min(more for _, more in pairs))
                self.tells(wanted, coming_logs, setting, log)

    def test_own_squares_come_at_once(self):
        for setting in SOME:
            for log in all_logs(setting, 3)[1::3]:
                if kind_of(setting, log) in setting.twice():
                    self.tells((1, 1), coming_logs, setting, log)

    def test_by_hand(self):
        self.tells((2, 2), coming_logs, SETTING, ["a"])
        self.tells((1, 1), coming_logs, SETTING, ["b"])
        self.tells((2, 1), coming_logs, DULL_PQ, ["p"])
        self.tells((1, 1), coming_logs, log=["p", "p"], setting=DULL_PQ)
        self.same(are_alike(SETTING, ["a"] * 2, ["a"] * 4), True)
        self.same(are_alike(SETTING, ["a"], ["a"] * 3), False)

    def test_closed_settings_are_no_longer_endless(self):
        for setting in ENDLESS[:3]:
            self.told(coming_logs, closed(setting), list(setting.deeds()))
        for value in odd_objects()[:9]:
            self.raises(InvalidSetting, value, coming_logs, value, ["a"])


if __name__ == "__main__":
    unittest.main()
