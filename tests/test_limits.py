"""[3]: results at the limits come, and come within seconds."""

import time
import unittest

from kindtwice.alike import are_alike, difference, is_difference
from kindtwice.doublings import (all_squeezed, doublings, fewest_halvings, halvings, is_chain, is_squeezed,
                                 is_squeezing, most_halvings, squeezing)
from kindtwice.endless import counting_store
from kindtwice.kinds import Kinds
from kindtwice.looks import hardest_stretch, is_hardest_stretch, least_looks, most_looks
from kindtwice.rows import is_longest_row, is_scarce_row, longest_row, scarce_row
from kindtwice.settings import Setting
from kindtwice.stores import Store, both_stores, is_typed, is_untyped, least_untyped, typed_kinds, untyped
from kindtwice.trees import (are_heights, heights, is_least_tree, is_low_tree, is_tall_row, least_tree, low_tree,
                             tall_row)
from tests.helping import CHAIN, CORNERS, FIRST_STAYS, KLEIN, LONG, ONE, PARITY, Case, once_again, words_of

SECONDS = 10
TABLES = (ONE, PARITY, FIRST_STAYS, CHAIN, CORNERS, KLEIN, LONG, once_again(1, 3), once_again(4, 1))


def widest(table, twice=None):
    """A setting of six deeds, all own squares in twice unless others are named."""
    words = words_of(table)
    squares = [word for word in words if table[(word, word)] == word]
    return Setting(Kinds(table), dict(zip(["a", "b", "c", "d", "e", "f"], words * 6)),
                   squares if twice is None else twice)


def mixed(setting, number, step=7):
    """A log in which deeds follow without a plain order."""
    deeds = list(setting.deeds())
    return [deeds[(at * at * step + at // 3 + at // 7) % len(deeds)] for at in range(number)]


class InTime(Case):
    def quickly(self, function, /, *args):
        start = time.monotonic()
        result = function(*args)
        self.assertLess(time.monotonic() - start, SECONDS, function.__name__)
        return result

    def test_rows(self):
        for table in TABLES:
            setting = widest(table)
            log = mixed(setting, 60)
            row = self.quickly(longest_row, setting, log)
            self.assertTrue(self.quickly(is_longest_row, setting, log, row))

    def test_trees(self):
        for table in TABLES:
            setting = widest(table)
            for log in (mixed(setting, 60), ["a"] * 60, ["a", "b"] * 30):
                tree = self.quickly(least_tree, setting, log)
                self.assertTrue(self.quickly(is_least_tree, setting, log, tree))
                told = self.quickly(heights, setting, log)
                self.assertTrue(self.quickly(are_heights, setting, log, told))
            for log in (mixed(setting, 600), ["a"] * 600, ["a", "b"] * 300):
                tree = self.quickly(low_tree, setting, log)
                self.assertTrue(self.quickly(is_low_tree, setting, log, tree))

    def test_lists_of_so_many_kinds(self):
        for table in TABLES:
            many = len(words_of(table))
            number = max(number for number in range(1, 13) if many ** number <= 512)
            kinds = Kinds(table)
            self.assertTrue(is_scarce_row(kinds, number, self.quickly(scarce_row, kinds, number)))
            self.assertTrue(is_tall_row(kinds, number, self.quickly(tall_row, kinds, number)))

    def test_looks(self):
        for table in TABLES:
            setting = widest(table)
            comb = "a"
            for deed in mixed(setting, 59):
                comb = ("pair", comb, deed)
            for tree in (comb, least_tree(setting, mixed(setting, 60)), low_tree(setting, mixed(setting, 60, 3))):
                most = self.quickly(most_looks, setting, tree)
                first, last = self.quickly(hardest_stretch, setting, tree)
                self.assertTrue(self.quickly(is_hardest_stretch, setting, tree, (first, last)))
                self.assertEqual(len(self.quickly(least_looks, setting, tree, first, last)), most)


    def test_doublings_of_fourteen_deeds(self):
        for table in TABLES:
            setting = widest(table)
            for log in (mixed(setting, 14), ["a"] * 14, ["a", "b"] * 7, ["a", "b", "c", "d", "a", "b", "b"] * 2,
                        list("aabbccaabbccaa")):
                many = self.quickly(most_halvings, setting, log)
                self.assertLessEqual(self.quickly(fewest_halvings, setting, log), many)
                for squeezed in self.quickly(all_squeezed, setting, log):
                    self.assertTrue(is_squeezed(setting, squeezed))
                for other in self.quickly(doublings, setting, log):
                    self.assertIn(log, halvings(setting, other))

    def test_chains_and_squeezings_of_sixty_deeds(self):
        for table in TABLES:
            setting = widest(table)
            own = [deed for deed in "abcdef" if setting.deeds().get(deed) in setting.twice()][0]
            for log in (mixed(setting, 60), [own] * 60, [own, "a"] * 30):
                logs = self.quickly(squeezing, setting, log)
                self.assertTrue(self.quickly(is_squeezing, setting, log, logs))
                self.assertTrue(self.quickly(is_chain, setting, log, logs[-1], logs))
            logs = [[own] * number for number in range(60, 0, -1)]
            self.assertTrue(self.quickly(is_squeezing, setting, logs[0], logs))
            self.assertTrue(self.quickly(is_chain, setting, logs[-1], logs[0], logs[::-1]))

    def test_alike_logs_of_sixty_deeds(self):
        for table in (ONE, PARITY, KLEIN, once_again(1, 3), once_again(1, 4), FIRST_STAYS, CHAIN, CORNERS):
            setting = widest(table)
            for one, other in [(mixed(setting, 60), mixed(setting, 60, 5)), (mixed(setting, 60), mixed(setting, 60)),
                               (list("abcdef") * 10, list("fedcba") * 10), (list("ab") * 30, list("ab") * 29)]:
                told = self.quickly(difference, setting, one, other)
                self.assertEqual(self.quickly(are_alike, setting, one, other), told is None)
                self.assertEqual(self.quickly(is_difference, setting, one, other, told), told is not None)

    def test_stores_of_twelve_and_thirteen_states(self):
        for table in TABLES:
            setting = widest(table)
            deeds = list(setting.deeds())
            for many in (12, 13):
                states = ["s" + letter for letter in "abcdefghijklm"[:many]]
                for moves in ({state: {deed: states[(at * 5 + place * place + 1) % many]
                                       for place, deed in enumerate(deeds)} for at, state in enumerate(states)},
                              {state: {deed: states[min(at + 1, many - 1)] if deed == "a" else state for deed in deeds}
                               for at, state in enumerate(states)}):
                    store = Store(moves)
                    told = self.quickly(untyped, setting, store)
                    self.assertEqual(self.quickly(is_typed, setting, store), told is None)
                    self.assertEqual(self.quickly(is_untyped, setting, store, told), told is not None)
                    self.quickly(least_untyped, setting, store)
                    self.quickly(typed_kinds, setting, store)
                    self.assertEqual(len(self.quickly(both_stores, store, store).states()), many * many)

    def test_counting_to_sixty(self):
        setting = widest(CHAIN, [])
        for deed in setting.deeds():
            self.assertEqual(len(self.quickly(counting_store, setting, deed, 60).states()), 62)


if __name__ == "__main__":
    unittest.main()
