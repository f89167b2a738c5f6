"""[33] to [37]: doublings and halvings, chains, squeezed logs, and what stays."""

import unittest

from kindtwice.doublings import (all_squeezed, doublings, fewest_halvings, halvings, is_chain, is_doubling,
                                 is_squeezed, is_squeezing, most_halvings, squeezing, stays)
from kindtwice.errors import InvalidLog, InvalidSetting, Refused
from kindtwice.kinds import Kinds, own_squares
from kindtwice.settings import kind_of, with_twice
from tests.helping import (CHAIN, CORNERS, DULL, LONG, MANY_TABLES, ONE, PARITY, SETTING, Case, free, kinds_in,
                           long_log, no_logs, no_settings, odd_objects, put_together, rows_of, some_setting, subsets)
from tests.plain import doubled, halved, squeezed_ways

WRONG = {"setting": (InvalidSetting, no_settings()), "log": (InvalidLog, no_logs()), "one": (InvalidLog, no_logs()),
         "other": (InvalidLog, no_logs())}
FEW = {name: (error, objects[::5]) for name, (error, objects) in WRONG.items()}


def lists(logs):
    return [list(log) for log in sorted(logs)]


def settings_of(table):
    """The settings of a table with each list of kinds in twice."""
    return [with_twice(some_setting(table), twice) for twice in subsets(own_squares(Kinds(table)))]


class Doublings(Case):
    """[33]: doublings, halvings, is_doubling."""

    def test_short_logs(self):
        for table in MANY_TABLES:
            for setting in settings_of(table):
                for log in rows_of(list(setting.deeds())[:2], 4)[::3] + [long_log(setting, 6), long_log(setting, 1)]:
                    self.same(doublings(setting, log), lists(doubled(setting, log)))
                    self.same(halvings(setting, log), lists(halved(setting, log)))

    def test_logs_of_fourteen_deeds(self):
        for table in MANY_TABLES:
            setting = some_setting(table)
            deeds = list(setting.deeds())
            for log in (long_log(setting, 14), (deeds[:2] * 7)[:14], ([deeds[0]] * 3 + [deeds[-1]] * 4) * 2):
                self.tells(lists(doubled(setting, log)), doublings, setting, log)
                self.tells(lists(halved(setting, log)), halvings, setting, log)

    def test_the_empty_log(self):
        for table in MANY_TABLES:
            self.tells([], doublings, some_setting(table), [])
            self.tells([], halvings, log=[], setting=some_setting(table))
            self.tells(False, is_doubling, some_setting(table), [], [])
        self.tells(False, is_doubling, SETTING, [], ["b"])
        self.tells(False, is_doubling, SETTING, ["b"], [])

    def test_logs_without_any(self):
        self.tells([], doublings, SETTING, ["a"])
        self.tells([], halvings, SETTING, ["a"])
        self.tells([], halvings, SETTING, ["a", "b", "a", "b"])
        self.tells([], doublings, with_twice(SETTING, []), ["b", "b"])
        self.tells([], halvings, with_twice(SETTING, []), ["b", "b"])
        self.tells([["b"]], halvings, SETTING, ["b", "b"])

    def test_one_log_is_told_once(self):
        self.tells([["p"] * 4, ["p"] * 5, ["p"] * 6], doublings, free("p"), ["p"] * 3)
        self.tells([["p"] * 4, ["p"] * 5, ["p"] * 6], halvings, free("p"), ["p"] * 7)
        self.tells([["q", "p"]], halvings, free("pq"), ["q", "p", "p"])

    def test_is_doubling_of_all_short_logs(self):
        for table in (ONE, PARITY, DULL, CHAIN, CORNERS, LONG):
            setting = some_setting(table)
            deeds = list(setting.deeds())[:2]
            logs = [log for number in range(5) for log in rows_of(deeds, number)]
            for one in logs[::2]:
                wanted = doubled(setting, one)
                for other in logs:
                    self.same(is_doubling(setting, one, other), tuple(other) in wanted)

    def test_is_doubling_of_long_logs(self):
        for table in MANY_TABLES:
            for setting in settings_of(table)[-2:]:
                log = long_log(setting, 60)
                row = kinds_in(setting, log)
                for first, last in [(0, 60), (0, 1), (59, 60), (10, 30), (31, 34), (2, 59)]:
                    other = log[:last] + log[first:]
                    if put_together(table, row[first:last]) in setting.twice():
                        self.tells(True, is_doubling, setting, log, other)
                        self.tells(False, is_doubling, setting, other, log)
                    else:
                        self.same(is_doubling(setting, log, other), tuple(other) in doubled(setting, log))
                    self.tells(False, is_doubling, other=other + other[-1:], one=other, setting=with_twice(setting, []))
                self.tells(False, is_doubling, setting, log, log)
                self.tells(False, is_doubling, setting, log, log * 3)

    def test_three_times_is_no_doubling(self):
        self.tells(False, is_doubling, SETTING, ["b"], ["b", "b", "b"])
        self.tells(True, is_doubling, SETTING, ["b"], ["b", "b"])
        self.tells(False, is_doubling, SETTING, ["a", "b"], ["b", "a", "b"])
        self.tells(False, is_doubling, SETTING, ["b", "a", "a"], ["b", "a", "b", "a", "a"])

    def test_wrong_ones(self):
        for function in (doublings, halvings):
            self.wrong_one_by_one(function, {"setting": SETTING, "log": ["a", "b"]}, WRONG)
        self.wrong_one_by_one(is_doubling, {"setting": SETTING, "one": ["b"], "other": ["b", "b"]}, FEW)
        for value in no_logs():
            self.raises(InvalidLog, value, is_doubling, SETTING, value, ["b"])
            self.raises(InvalidLog, value, is_doubling, SETTING, ["b"], value)


class Chains(Case):
    """[34]: is_chain."""

    def test_of_one_log(self):
        for log in ([], ["a"], ["b", "b"], long_log(SETTING, 60)):
            self.tells(True, is_chain, SETTING, log, log, [log])
            self.tells(False, is_chain, SETTING, log, log, [log, log])
            self.tells(False, is_chain, SETTING, log, log, [])
            self.tells(False, is_chain, SETTING, log, log + ["a"], [log])
            self.tells(False, is_chain, SETTING, log + ["a"], log, [log])
        self.tells(False, is_chain, SETTING, [], [], [[], []])

    def test_to_and_fro(self):
        chain = [["b"], ["b", "b"], ["b"], ["b", "b"], ["b", "b", "b", "b"], ["b", "b", "b"]]
        for last in range(1, 7):
            self.tells(True, is_chain, SETTING, ["b"], chain[last - 1], chain[:last])
            self.tells(True, is_chain, value=chain[:last][::-1], other=["b"], one=chain[last - 1], setting=SETTING)
        self.tells(False, is_chain, with_twice(SETTING, []), ["b"], ["b", "b"], [["b"], ["b", "b"]])

    def long_chain(self, setting, log):
        """A chain of 60 logs."""
        chain = [log]
        while len(chain) < 60:
            longer = [other for other in doublings(setting, chain[-1]) if len(other) <= 60]
            choice = longer if longer and len(chain) % 7 else halvings(setting, chain[-1]) or longer
            chain.append(choice[len(chain) % len(choice)])
        return chain

    def test_of_sixty_logs_and_bent_at_one_place(self):
        for table in (ONE, PARITY, CHAIN, LONG, CORNERS):
            setting = some_setting(table)
            chain = self.long_chain(setting, long_log(setting, 9))
            self.tells(True, is_chain, setting, chain[0], chain[-1], chain)
            self.assertGreater(max(map(len, chain)), 20)
            for at in (0, 1, 17, 30, 58, 59):
                deed = list(setting.deeds())[0]
                for log in (chain[at] + [deed] * 70, ["other"], tuple(chain[at]), None):
                    bent = chain[:at] + [log] + chain[at + 1:]
                    self.tells(False, is_chain, setting, chain[0], chain[-1], bent)
                stays_twice = chain[:at + 1] + chain[at:]
                self.tells(False, is_chain, setting, chain[0], chain[-1], stays_twice)

    def test_a_step_left_out(self):
        chain = [["b"], ["b", "b"], ["b", "b", "b", "b"], ["b"] * 8]
        self.tells(True, is_chain, SETTING, ["b"], ["b"] * 8, chain)
        for at in range(4):
            self.tells(False, is_chain, SETTING, ["b"], ["b"] * 8, chain[:at] + chain[at + 1:])

    def test_any_object_is_judged(self):
        for value in odd_objects() + [[["b"], None], [None], ["b"], (["b"],), {0: ["b"]}, [("b",)], [["b"], ["c"]],
                                      [["b"], ["b", "b"]], [["b", "b"], ["b"]], [[["b"]]], "b", [SETTING]]:
            self.tells(False, is_chain, SETTING, ["b"], ["b"], value)
            self.tells(False, is_chain, value=value, other=["a"], one=["b"], setting=SETTING)

    def test_wrong_ones(self):
        for value in ([["b"]], None, []):
            self.wrong_one_by_one(is_chain, {"setting": SETTING, "one": ["b"], "other": ["b"], "value": value}, FEW)


class Squeezed(Case):
    """[35], [36]: squeezed logs, and halvings that lead to them."""

    def check(self, setting, log):
        ends, numbers = squeezed_ways(setting, log)
        self.tells(lists(ends), all_squeezed, setting, log)
        self.tells(min(numbers), fewest_halvings, setting, log)
        self.tells(max(numbers), most_halvings, setting, log)
        self.tells(numbers == {0}, is_squeezed, setting, log)
        logs = self.told(squeezing, setting, log)
        self.assertEqual(logs[0], log)
        self.assertIn(tuple(logs[-1]), ends)
        self.assertIn(len(logs) - 1, numbers)
        for one, other in zip(logs, logs[1:]):
            self.assertIn(tuple(other), halved(setting, one))
        self.tells(True, is_squeezing, setting, log, logs)
        self.tells(len(logs) == 1, is_squeezing, setting, logs[-1], [logs[-1]] if len(logs) == 1 else logs)
        self.tells(False, is_squeezing, setting, log, logs[:-1])
        self.tells(False, is_squeezing, setting, log, logs + logs[-1:])

    def test_short_logs(self):
        for table in MANY_TABLES:
            for setting in settings_of(table)[-2:]:
                for log in rows_of(list(setting.deeds())[:2], 4)[::5] + [long_log(setting, 7)]:
                    self.check(setting, log)

    def test_logs_of_fourteen_deeds(self):
        for table in (ONE, PARITY, DULL, CHAIN, LONG, CORNERS):
            setting = some_setting(table)
            deeds = list(setting.deeds())
            for log in ((deeds[:2] * 7)[:14], (deeds[:1] * 2 + deeds[-1:]) * 4, [deeds[-1]] * 14):
                self.check(setting, log)

    def test_the_least_and_the_greatest_number_differ(self):
        self.tells(2, fewest_halvings, SETTING, ["b"] * 4)
        self.tells(3, most_halvings, SETTING, ["b"] * 4)
        self.tells(4, fewest_halvings, free("p"), ["p"] * 14)
        self.tells(13, most_halvings, log=["p"] * 14, setting=free("p"))
        self.tells([["p"]], all_squeezed, log=["p"] * 14, setting=free("p"))

    def test_halvings_may_end_in_different_logs(self):
        log = list("pqrqpqrqr")
        self.tells([list("pqr"), list("pqrqpqr")], all_squeezed, free("pqr"), log)
        self.check(free("pqr"), log)
        self.check(free("pqr"), list("r") + log + list("qrp"))
        self.tells(1, fewest_halvings, free("pqr"), log)
        self.tells(2, most_halvings, free("pqr"), log)

    def test_a_squeezed_log(self):
        for log in ([], ["a"], ["a", "b", "a"], ["a", "b", "a", "b"], ["a", "a", "a", "b"]):
            self.tells(True, is_squeezed, SETTING, log)
            self.tells([log], squeezing, SETTING, log)
            self.tells([log], all_squeezed, SETTING, log)
            self.tells(0, fewest_halvings, SETTING, log)
            self.tells(0, most_halvings, SETTING, log)
            self.tells(True, is_squeezing, SETTING, log, [log])
            self.tells(False, is_squeezing, SETTING, log, [])

    def test_logs_of_sixty(self):
        for table in MANY_TABLES:
            setting = some_setting(table)
            deeds = list(setting.deeds())
            for log in (long_log(setting, 60), [deeds[-1]] * 60, (deeds * 60)[:60]):
                logs = self.told(squeezing, setting, log)
                self.tells(True, is_squeezing, setting, log, logs)
                self.tells(True, is_squeezed, setting, logs[-1])
                self.tells(len(logs) == 1, is_squeezed, setting, log)
                self.assertEqual(halved(setting, logs[-1]) if len(logs[-1]) < 15 else set(), set())

    def test_squeezings_that_are_none(self):
        logs = [["b", "b", "b"], ["b", "b"], ["b"]]
        self.tells(True, is_squeezing, SETTING, logs[0], logs)
        for value in (logs[:2], logs[1:], logs[::-1], [logs[0], logs[2]], logs + [["b"]], logs[:1] + logs, [logs], [],
                      [tuple(log) for log in logs], tuple(logs), None, logs[:2] + [None], logs[:2] + ["b"],
                      logs[:2] + [[]], [logs[0], ["b"] * 6] + logs, [logs[0], ["b"] * 6, logs[0], ["b"] * 2, ["b"]]):
            self.tells(False, is_squeezing, SETTING, logs[0], value)
        self.tells(True, is_squeezing, SETTING, ["b"] * 4, [["b"] * 4, ["b"] * 2, ["b"]])
        self.tells(False, is_squeezing, with_twice(SETTING, []), logs[0], logs)
        self.tells(True, is_squeezing, with_twice(SETTING, []), logs[0], logs[:1])

    def test_any_object_is_judged(self):
        for value in odd_objects() + [[["a"], None], ["a"], (["a"],), [["c"]], [[["a"]]], [["b"]]]:
            self.tells(False, is_squeezing, SETTING, ["a"], value)
            self.tells(value == [[]], is_squeezing, value=value, log=[], setting=SETTING)

    def test_wrong_ones(self):
        for function in (is_squeezed, squeezing, all_squeezed, fewest_halvings, most_halvings):
            self.wrong_one_by_one(function, {"setting": SETTING, "log": ["b", "b"]}, WRONG)
        for value in ([["b"]], None):
            self.wrong_one_by_one(is_squeezing, {"setting": SETTING, "log": ["b"], "value": value}, WRONG)


class Stays(Case):
    """[37]: stays."""

    def test_short_logs(self):
        for table in MANY_TABLES:
            setting = some_setting(table)
            for log in rows_of(list(setting.deeds())[:3], 4)[::3] + [long_log(setting, 60)]:
                found = [deed for place, deed in enumerate(log) if deed not in log[:place]]
                ended = [deed for place, deed in enumerate(log) if deed not in log[place + 1:]]
                self.tells((kind_of(setting, log), found, ended[::-1]), stays, setting, log)
                for other in doublings(setting, log[:14])[::3]:
                    self.same(stays(setting, other), stays(setting, log[:14]))

    def test_one_deed_again_and_again(self):
        for number in (1, 2, 3, 60):
            self.tells(("odd" if number % 2 else "even", ["a"], ["a"]), stays, SETTING, ["a"] * number)
            self.tells(("even", ["b"], ["b"]), stays, log=["b"] * number, setting=SETTING)

    def test_by_hand(self):
        self.tells(("k", ["q", "p", "r"], ["p", "r", "q"]), stays, free("pqr"), ["q", "p", "q", "r", "p"])
        self.tells(("k", ["q", "p", "r"], ["p", "r", "q"]), stays, free("pqr", []), ["q", "p", "q", "r", "p"])

    def test_the_empty_log(self):
        empty = []
        self.raises(Refused, empty, stays, SETTING, empty)
        self.raises(Refused, empty, stays, log=empty, setting=with_twice(SETTING, []))
        self.raises(InvalidSetting, None, stays, None, [])

    def test_wrong_ones(self):
        self.wrong_one_by_one(stays, {"setting": SETTING, "log": ["a"]}, WRONG)


if __name__ == "__main__":
    unittest.main()
