"""[3]: results at the limits come, and come within seconds."""

import time
import unittest

from kindtwice.alike import are_alike, difference, is_difference
from kindtwice.desk import Desk, replayed
from kindtwice.doublings import (all_squeezed, doublings, fewest_halvings, halvings, is_chain, is_squeezed,
                                 is_squeezing, most_halvings, squeezing)
from kindtwice.endless import counting_store
from kindtwice.falls import (chain_back, costliest, done_log, harmful_falls, is_chain_back, is_costliest, is_harmless,
                             many_days, many_done)
from kindtwice.kinds import Kinds
from kindtwice.looks import hardest_stretch, is_hardest_stretch, least_looks, most_looks
from kindtwice.marks import (any_marks, are_bounds, are_fewest, bounds, fewest_marks, is_covered, many_fewest, marks_at,
                             open_points, reach, sure_marks)
from kindtwice.papers import logs_text, read_logs, read_setting, setting_text
from kindtwice.rows import is_longest_row, is_scarce_row, longest_row, scarce_row
from kindtwice.settings import Setting
from kindtwice.scripts import end_of, needless, play, read_script, script_text
from kindtwice.small import alike_logs, coming_logs, least, least_logs, many_unlike
from kindtwice.stores import Store, both_stores, is_typed, is_untyped, least_untyped, typed_kinds, untyped
from kindtwice.telling import is_telling, least_states, own_names, own_store, telling
from kindtwice.trees import (are_heights, heights, is_least_tree, is_low_tree, is_tall_row, least_tree, low_tree,
                             tall_row)
from tests.helping import CHAIN, CORNERS, FIRST_STAYS, KLEIN, LONG, ONE, PARITY, Case, once_again, words_of
from tests.test_marks import CHOICES
from tests.test_small import COUNTS

SECONDS = 10
TABLES = (ONE, PARITY, FIRST_STAYS, CHAIN, CORNERS, KLEIN, LONG, once_again(1, 3), once_again(4, 1))


def widest(table, twice=None):
    """A setting of six deeds, all own squares in twice unless others are named."""
    words = words_of(table)
    squares = [word for word in words if table[(word, word)] == word]
    return Setting(Kinds(table), dict(zip(["a", "b", "c", "d", "e", "f"], words * 6)),
                   squares if twice is None else twice)


def mixed(setting, number, step=7):
    """A log in which deeds follow without a plain order."""
    deeds = list(setting.deeds())
    return [deeds[(at * at * step + at // 3 + at // 7) % len(deeds)] for at in range(number)]


class InTime(Case):
    def quickly(self, function, /, *args):
        start = time.monotonic()
        result = function(*args)
        self.assertLess(time.monotonic() - start, SECONDS, function.__name__)
        return result

    def test_rows(self):
        for table in TABLES:
            setting = widest(table)
            log = mixed(setting, 60)
            row = self.quickly(longest_row, setting, log)
            self.assertTrue(self.quickly(is_longest_row, setting, log, row))

    def test_trees(self):
        for table in TABLES:
            setting = widest(table)
            for log in (mixed(setting, 60), ["a"] * 60, ["a", "b"] * 30):
                tree = self.quickly(least_tree, setting, log)
                self.assertTrue(self.quickly(is_least_tree, setting, log, tree))
                told = self.quickly(heights, setting, log)
                self.assertTrue(self.quickly(are_heights, setting, log, told))
            for log in (mixed(setting, 600), ["a"] * 600, ["a", "b"] * 300):
                tree = self.quickly(low_tree, setting, log)
                self.assertTrue(self.quickly(is_low_tree, setting, log, tree))

    def test_lists_of_so_many_kinds(self):
        for table in TABLES:
            many = len(words_of(table))
            number = max(number for number in range(1, 13) if many ** number <= 512)
            kinds = Kinds(table)
            self.assertTrue(is_scarce_row(kinds, number, self.quickly(scarce_row, kinds, number)))
            self.assertTrue(is_tall_row(kinds, number, self.quickly(tall_row, kinds, number)))

    def test_looks(self):
        for table in TABLES:
            setting = widest(table)
            comb = "a"
            for deed in mixed(setting, 59):
                comb = ("pair", comb, deed)
            for tree in (comb, least_tree(setting, mixed(setting, 60)), low_tree(setting, mixed(setting, 60, 3))):
                most = self.quickly(most_looks, setting, tree)
                first, last = self.quickly(hardest_stretch, setting, tree)
                self.assertTrue(self.quickly(is_hardest_stretch, setting, tree, (first, last)))
                self.assertEqual(len(self.quickly(least_looks, setting, tree, first, last)), most)


    def test_doublings_of_fourteen_deeds(self):
        for table in TABLES:
            setting = widest(table)
            for log in (mixed(setting, 14), ["a"] * 14, ["a", "b"] * 7, ["a", "b", "c", "d", "a", "b", "b"] * 2,
                        list("aabbccaabbccaa")):
                many = self.quickly(most_halvings, setting, log)
                self.assertLessEqual(self.quickly(fewest_halvings, setting, log), many)
                for squeezed in self.quickly(all_squeezed, setting, log):
                    self.assertTrue(is_squeezed(setting, squeezed))
                for other in self.quickly(doublings, setting, log):
                    self.assertIn(log, halvings(setting, other))

    def test_chains_and_squeezings_of_sixty_deeds(self):
        for table in TABLES:
            setting = widest(table)
            own = [deed for deed in "abcdef" if setting.deeds().get(deed) in setting.twice()][0]
            for log in (mixed(setting, 60), [own] * 60, [own, "a"] * 30):
                logs = self.quickly(squeezing, setting, log)
                self.assertTrue(self.quickly(is_squeezing, setting, log, logs))
                self.assertTrue(self.quickly(is_chain, setting, log, logs[-1], logs))
            logs = [[own] * number for number in range(60, 0, -1)]
            self.assertTrue(self.quickly(is_squeezing, setting, logs[0], logs))
            self.assertTrue(self.quickly(is_chain, setting, logs[-1], logs[0], logs[::-1]))

    def test_alike_logs_of_sixty_deeds(self):
        for table in (ONE, PARITY, KLEIN, once_again(1, 3), once_again(1, 4), FIRST_STAYS, CHAIN, CORNERS):
            setting = widest(table)
            for one, other in [(mixed(setting, 60), mixed(setting, 60, 5)), (mixed(setting, 60), mixed(setting, 60)),
                               (list("abcdef") * 10, list("fedcba") * 10), (list("ab") * 30, list("ab") * 29)]:
                told = self.quickly(difference, setting, one, other)
                self.assertEqual(self.quickly(are_alike, setting, one, other), told is None)
                self.assertEqual(self.quickly(is_difference, setting, one, other, told), told is not None)

    def test_stores_of_twelve_and_thirteen_states(self):
        for table in TABLES:
            setting = widest(table)
            deeds = list(setting.deeds())
            for many in (12, 13):
                states = ["s" + letter for letter in "abcdefghijklm"[:many]]
                for moves in ({state: {deed: states[(at * 5 + place * place + 1) % many]
                                       for place, deed in enumerate(deeds)} for at, state in enumerate(states)},
                              {state: {deed: states[min(at + 1, many - 1)] if deed == "a" else state for deed in deeds}
                               for at, state in enumerate(states)}):
                    store = Store(moves)
                    told = self.quickly(untyped, setting, store)
                    self.assertEqual(self.quickly(is_typed, setting, store), told is None)
                    self.assertEqual(self.quickly(is_untyped, setting, store, told), told is not None)
                    self.quickly(least_untyped, setting, store)
                    self.quickly(typed_kinds, setting, store)
                    self.assertEqual(len(self.quickly(both_stores, store, store).states()), many * many)

    def test_counting_to_sixty(self):
        setting = widest(CHAIN, [])
        for deed in setting.deeds():
            self.assertEqual(len(self.quickly(counting_store, setting, deed, 60).states()), 62)

    def test_small_settings(self):
        for setting, many in COUNTS:
            logs = [[list(setting.deeds())[0]] * 60, mixed(setting, 60), mixed(setting, 59, 3)]
            self.assertEqual(self.quickly(many_unlike, setting), many)
            self.assertEqual(len(self.quickly(least_logs, setting)), many)
            self.assertEqual(len(self.quickly(own_store, setting).states()), many + 1)
            self.assertEqual(len(self.quickly(own_names, setting)), many + 1)
            for log in logs:
                own = self.quickly(least, setting, log)
                told = self.quickly(alike_logs, setting, log, 10)
                self.assertEqual(own in told, len(own) <= 10)
                self.quickly(coming_logs, setting, log)
                self.quickly(least_states, setting, log, logs[1])
                value = self.quickly(telling, setting, log, logs[1])
                self.assertEqual(self.quickly(is_telling, setting, log, logs[1], value), value is not None)
                if value is not None:
                    value = (own_store(setting), "a")
                    self.assertTrue(self.quickly(is_telling, setting, log, logs[1], value))
                marks = any_marks(setting, log)
                self.assertEqual(self.quickly(harmful_falls, setting, log, marks), [])
                self.quickly(is_harmless, setting, log, [0])

    def test_marks_of_sixty_deeds(self):
        for setting in [widest(table) for table in TABLES] + [widest(CHAIN, ["aa"]), CHOICES]:
            for log in (mixed(setting, 60), ["a"] * 60, ["b", "a"] * 30):
                most = self.quickly(fewest_marks, setting, log)
                marks = self.quickly(any_marks, setting, log)
                self.assertTrue(self.quickly(are_fewest, setting, log, marks))
                self.assertTrue(self.quickly(is_covered, setting, log, marks))
                self.assertEqual(self.quickly(open_points, setting, log, marks), [])
                self.assertLessEqual(len(self.quickly(open_points, setting, log, [0])), 60)
                value = self.quickly(bounds, setting, log)
                self.assertEqual(value[61], most)
                self.assertTrue(self.quickly(are_bounds, setting, log, value))
                many = self.quickly(many_fewest, setting, log)
                self.assertTrue(are_fewest(setting, log, self.quickly(marks_at, setting, log, many - 1)))
                self.assertLessEqual(len(self.quickly(sure_marks, setting, log)), most)
                for point in (0, 30, 60):
                    self.quickly(reach, setting, log, point)

    def test_days_of_twelve_falls(self):
        for setting in [widest(table) for table in TABLES]:
            for log in (mixed(setting, 60), ["a"] * 60):
                for marks in ([0], list(range(0, 60, 3)), any_marks(setting, log)):
                    self.assertGreaterEqual(self.quickly(many_days, log, marks, 12), 61)
                    falls = self.quickly(costliest, log, marks, 12)
                    self.assertTrue(self.quickly(is_costliest, log, marks, 12, falls))
                    self.assertEqual(len(self.quickly(done_log, log, marks, falls)), many_done(log, marks, falls))
                    if is_covered(setting, log, marks):
                        chain = self.quickly(chain_back, setting, log, marks, falls)
                        self.assertTrue(self.quickly(is_chain_back, setting, log, marks, falls, chain))

    def test_a_desk_of_a_hundred_commands(self):
        setting = widest(PARITY)
        script = ([("do", "b")] * 4 + [("mark",), ("do", "a"), ("fall",), ("do", "a"), ("go_on",), ("undo",)]) * 10
        desk = Desk(setting)
        self.quickly(play, desk, script)
        record = desk.record()
        for _ in range(10):
            desk = self.quickly(replayed, Desk(setting), record)
        self.assertEqual(desk.record(), record)
        self.quickly(desk.why_not)
        desk.go_on()
        self.quickly(desk.next_mark, ["a"] * 10)

    def test_scripts_and_texts(self):
        script = [("do", "a"), ("try", [("mark",), ("try", [("fall",), ("try", [("try", [("undo",)]), ("redo",)])])]),
                  ("go_on",), ("fall",), ("do", "a")]
        for table in TABLES:
            setting = widest(table)
            self.quickly(end_of, setting, script)
            self.quickly(needless, setting, script)
            self.assertTrue(self.quickly(read_setting, setting_text(setting)) == setting)
        lines = script * 20
        self.assertEqual(self.quickly(read_script, script_text(lines)), lines)
        logs = [["abcdefgh"] * 44] * 250
        self.assertEqual(self.quickly(read_logs, logs_text(logs)), logs)


if __name__ == "__main__":
    unittest.main()
