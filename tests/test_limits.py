"""[3]: results at the limits come, and come within seconds."""

import time
import unittest

from kindtwice.kinds import Kinds
from kindtwice.looks import hardest_stretch, is_hardest_stretch, least_looks, most_looks
from kindtwice.rows import is_longest_row, is_scarce_row, longest_row, scarce_row
from kindtwice.settings import Setting
from kindtwice.trees import (are_heights, heights, is_least_tree, is_low_tree, is_tall_row, least_tree, low_tree,
                             tall_row)
from tests.helping import CHAIN, CORNERS, FIRST_STAYS, KLEIN, LONG, ONE, PARITY, Case, once_again, words_of

SECONDS = 10
TABLES = (ONE, PARITY, FIRST_STAYS, CHAIN, CORNERS, KLEIN, LONG, once_again(1, 3), once_again(4, 1))


def widest(table, twice=None):
    """A setting of six deeds, all own squares in twice unless others are named."""
    words = words_of(table)
    squares = [word for word in words if table[(word, word)] == word]
    return Setting(Kinds(table), dict(zip(["a", "b", "c", "d", "e", "f"], words * 6)),
                   squares if twice is None else twice)


def mixed(setting, number, step=7):
    """A log in which deeds follow without a plain order."""
    deeds = list(setting.deeds())
    return [deeds[(at * at * step + at // 3 + at // 7) % len(deeds)] for at in range(number)]


class InTime(Case):
    def quickly(self, function, /, *args):
        start = time.monotonic()
        result = function(*args)
        self.assertLess(time.monotonic() - start, SECONDS, function.__name__)
        return result

    def test_rows(self):
        for table in TABLES:
            setting = widest(table)
            log = mixed(setting, 60)
            row = self.quickly(longest_row, setting, log)
            self.assertTrue(self.quickly(is_longest_row, setting, log, row))

    def test_trees(self):
        for table in TABLES:
            setting = widest(table)
            for log in (mixed(setting, 60), ["a"] * 60, ["a", "b"] * 30):
                tree = self.quickly(least_tree, setting, log)
                self.assertTrue(self.quickly(is_least_tree, setting, log, tree))
                told = self.quickly(heights, setting, log)
                self.assertTrue(self.quickly(are_heights, setting, log, told))
            for log in (mixed(setting, 600), ["a"] * 600, ["a", "b"] * 300):
                tree = self.quickly(low_tree, setting, log)
                self.assertTrue(self.quickly(is_low_tree, setting, log, tree))

    def test_lists_of_so_many_kinds(self):
        for table in TABLES:
            many = len(words_of(table))
            number = max(number for number in range(1, 13) if many ** number <= 512)
            kinds = Kinds(table)
            self.assertTrue(is_scarce_row(kinds, number, self.quickly(scarce_row, kinds, number)))
            self.assertTrue(is_tall_row(kinds, number, self.quickly(tall_row, kinds, number)))

    def test_looks(self):
        for table in TABLES:
            setting = widest(table)
            comb = "a"
            for deed in mixed(setting, 59):
                comb = ("pair", comb, deed)
            for tree in (comb, least_tree(setting, mixed(setting, 60)), low_tree(setting, mixed(setting, 60, 3))):
                most = self.quickly(most_looks, setting, tree)
                first, last = self.quickly(hardest_stretch, setting, tree)
                self.assertTrue(self.quickly(is_hardest_stretch, setting, tree, (first, last)))
                self.assertEqual(len(self.quickly(least_looks, setting, tree, first, last)), most)


if __name__ == "__main__":
    unittest.main()
