"""[24], [25], [27], [28]: trees, least trees, and the knots of trees."""

import unittest

from kindtwice.errors import InvalidCount, InvalidKinds, InvalidLog, InvalidSetting, InvalidTree, Refused
from kindtwice.kinds import Kinds
from kindtwice.settings import Setting, kind_of, opposite_setting, with_twice
from kindtwice.trees import (greatest_height, height_of, is_least_tree, is_tall_row, is_tree, kind_by, knots_of,
                             least_height, least_tree, log_of, opposite_tree, pairs_alone, tall_row)
from tests.helping import (CHAIN, CORNERS, DULL, FIRST_STAYS, LONG, MANY_TABLES, ONE, PARITY, SETTING, Case,
                           all_tables, long_log, no_counts, no_kinds, no_logs, no_settings, odd_objects, once_again,
                           rows_of, some_setting, strict, words_of)
from tests.plain import all_trees, height_in, is_sound, knots_in, log_in, turned_tree

TREE = ("pair", "a", ("pair", ("run", "even", ["b", "b", "b", "b"]), "a"))
NO_PARTS = [None, True, False, 0, 1, "c", "", "A", "ab", "even", "pair", "run", [], (), {}, ["a"], ("a",), ["b", "b"],
            ("b", "b"), ("pair",), ("pair", "a"), ("pair", "a", "a", "a"), ["pair", "a", "a"], ("pair", ["a", "a"]),
            ("Pair", "a", "a"), ("pairs", "a", "a"), ("pair", "a", "c"), ("pair", "c", "a"), ("pair", "a", None),
            ("pair", ["a"], "a"), ("run", "even"), ("run", "even", ["b"]), ("run", "even", []), ("run", "even", "bb"),
            ("run", "even", ("b", "b")), ("run", "odd", ["a", "a"]), ("run", "odd", ["b", "b"]),
            ("run", "even", ["a", "a"]), ("run", "even", ["b", "a"]), ("run", "even", ["a", "b", "b"]),
            ("run", "even", ["b", "b", "a"]), ("run", "even", ["b", "c"]), ("run", "even", ["b", None]),
            ("run", "even", ["b", ["b"]]), ("run", "even", {"b": 1, "a": 2}), ("run", None, ["b", "b"]),
            ("run", ["even"], ["b", "b"]), ("run", "b", ["b", "b"]), ["run", "even", ["b", "b"]],
            ("run", "even", ["b", "b"], "b"), ("run", ["b", "b"], "even"), ("Run", "even", ["b", "b"]),
            ("run", True, ["b", "b"]), (None, "b", "b"), (True, "a", "a"), (["pair"], "a", "a"), {"pair": ("a", "a")},
            (("pair",), "a", "a"), ({"run": 1}, "even", ["b", "b"]), Kinds(PARITY), SETTING, (SETTING, "a", "a")]
NO_TREES = [one for one in odd_objects() if one not in ("a", "b")] + NO_PARTS


def within(tree, part):
    """The trees with a part put in at one place, wherever a deed of the tree stands."""
    if isinstance(tree, str):
        return [part]
    if tree[0] == "pair":
        return [("pair", one, tree[2]) for one in within(tree[1], part)] + [
            ("pair", tree[1], one) for one in within(tree[2], part)]
    return [("run", tree[1], tree[2][:at] + [one] + tree[2][at + 1:])
            for at, other in enumerate(tree[2]) for one in within(other, part)]


def comb(deed, number, left=True):
    """A tree of so many deeds as deep as can be."""
    tree = deed
    for _ in range(number - 1):
        tree = ("pair", tree, deed) if left else ("pair", deed, tree)
    return tree


def deep_runs(number):
    """A tree of so many deeds b, all of runs of two, as deep as can be."""
    tree = "b"
    for _ in range(number - 1):
        tree = ("run", "even", [tree, "b"])
    return tree


class IsTree(Case):
    """[24]: is_tree, log_of, kind_by, height_of."""

    def check(self, setting, tree):
        log = log_in(tree)
        self.tells(True, is_tree, setting, tree)
        self.tells(log, log_of, setting, tree)
        self.tells(kind_of(setting, log), kind_by, setting, tree)
        self.tells(height_in(tree), height_of, setting, tree)

    def test_a_deed_alone(self):
        for deed in ("a", "b"):
            self.check(SETTING, deed)
        for value in ("c", "", "A", "ab", ["a"], ("a",), "odd", "even", None):
            self.tells(False, is_tree, SETTING, value)

    def test_pairs_and_runs(self):
        for tree in [TREE, ("pair", "a", "b"), ("run", "even", ["b", "b"]), ("run", "even", ["b"] * 7),
                     ("pair", ("pair", "a", "b"), ("pair", "b", "a")),
                     ("run", "even", ["b", ("pair", "a", "a"), "b", ("run", "even", ["b", "b"])]),
                     ("run", "even", [("pair", "a", "a"), ("pair", ("pair", "a", "b"), "a")])]:
            self.check(SETTING, tree)

    def test_all_trees_of_short_logs(self):
        for table in MANY_TABLES:
            setting = some_setting(table)
            for log in rows_of(list(setting.deeds())[:3], 3) + [long_log(setting, 5)]:
                for tree in all_trees(setting, log)[:150]:
                    self.same([is_tree(setting, tree), log_of(setting, tree), kind_by(setting, tree),
                               height_of(setting, tree)], [True, log, kind_of(setting, log), height_in(tree)])

    def test_runs_of_all_kinds_over_all_logs(self):
        for table in MANY_TABLES:
            setting = some_setting(table)
            deeds = list(setting.deeds())
            for kind in words_of(table) + ["more"]:
                for log in rows_of(deeds, 2):
                    for tree in (("run", kind, log), ("run", kind, [("pair", *log)] * 2),
                                 ("run", kind, [log[0], ("pair", *log)])):
                        self.same(is_tree(setting, tree), is_sound(setting, tree))

    def test_own_squares_not_in_twice_make_runs_too(self):
        self.check(with_twice(SETTING, []), TREE)

    def test_deeds_that_are_called_pair_and_run(self):
        setting = Setting(Kinds(ONE), {"pair": "k", "run": "k"}, [])
        for tree in ["pair", "run", ("pair", "pair", "run"), ("run", "k", ["run", "pair"]), ("pair", "run", "run")]:
            self.check(setting, tree)
        for value in [("run", "pair", "run"), ("run", "run", ["run", "run"]), ("pair", "run"), ("pair", "k", "run")]:
            self.tells(False, is_tree, setting, value)

    def test_any_object_is_judged(self):
        for value in NO_TREES:
            self.tells(False, is_tree, SETTING, value)
            self.tells(False, is_tree, value=value, setting=SETTING)

    def test_wrong_in_one_place_deep_within(self):
        deep = ("pair", TREE, ("run", "even", ["b", ("pair", "a", ("pair", "b", "a")), "b"]))
        self.check(SETTING, deep)
        for part in NO_PARTS + odd_objects()[:30]:
            for tree in within(deep, part):
                self.same(is_tree(SETTING, tree), is_sound(SETTING, tree))
                if part not in ("a", "b"):
                    self.same(is_tree(SETTING, tree), False)
        for tree in within(comb("a", 20), ("run", "even", ["b", "a"])):
            self.raises(InvalidTree, tree, kind_by, SETTING, tree)
        for tree in within(deep, "a") + within(deep, "b") + within(deep, ("pair", "a", "b")):
            self.same(is_tree(SETTING, tree), is_sound(SETTING, tree))

    def test_trees_of_sixty_deeds(self):
        for tree in [comb("a", 60), comb("a", 60, False), deep_runs(60), ("run", "even", ["b"] * 60),
                     ("run", "even", [comb("a", 2)] * 30), comb(deep_runs(3), 20), deep_runs(41), comb("b", 41)]:
            self.check(SETTING, tree)
            self.same(knots_of(SETTING, tree)[0], (0, len(log_in(tree)), height_in(tree)))
        self.tells(59, height_of, SETTING, deep_runs(60))

    def test_beyond_the_limit_is_no_error(self):
        self.tells(True, is_tree, SETTING, comb("a", 90))
        self.tells(["b"] * 400, log_of, SETTING, ("run", "even", ["b"] * 400))
        tree = comb("b", 3000)
        self.assertEqual(height_of(SETTING, tree), 2999)

    def test_wrong_ones(self):
        wrong = {"setting": (InvalidSetting, no_settings()), "tree": (InvalidTree, NO_TREES)}
        for function in (log_of, kind_by, height_of, knots_of, opposite_tree):
            self.wrong_one_by_one(function, {"setting": SETTING, "tree": TREE}, wrong)
        for value in (TREE, "a", None, [], ("pair",)):
            self.wrong_one_by_one(is_tree, {"setting": SETTING, "value": value}, wrong)


class Least(Case):
    """[25]: least_height, least_tree, is_least_tree; [26]: pairs_alone."""

    def check(self, setting, log):
        trees = all_trees(setting, log)
        least = min(map(height_in, trees))
        self.tells(least, least_height, setting, log)
        tree = self.told(least_tree, setting, log)
        self.assertTrue(is_sound(setting, tree))
        self.assertEqual((log_in(tree), height_in(tree)), (log, least))
        for other in trees[::max(1, len(trees) // 40)]:
            self.same(is_least_tree(setting, log, other), height_in(other) == least)
        bare = [height_in(other) for other in trees if "'run'" not in repr(other)]
        self.tells(min(bare), pairs_alone, setting, log)

    def test_against_all_trees_of_short_logs(self):
        for table in MANY_TABLES:
            setting = some_setting(table)
            for number in (1, 2):
                for log in rows_of(list(setting.deeds()), number):
                    self.check(setting, log)
            self.check(setting, long_log(setting, 4))
            self.check(setting, long_log(setting, 7)[2:])

    def test_against_all_trees_of_six_deeds(self):
        for table in (PARITY, DULL, LONG, FIRST_STAYS, once_again(1, 3), once_again(2, 2)):
            setting = some_setting(table)
            deeds = list(setting.deeds())
            for log in (long_log(setting, 6), [deeds[0], deeds[-1]] * 3, [deeds[1]] * 3 + [deeds[0]] * 3):
                least = min(map(height_in, all_trees(setting, log)))
                self.same(least_height(setting, log), least)
                self.same(height_in(least_tree(setting, log)), least)

    def test_logs_of_sixty(self):
        self.tells(1, least_height, SETTING, ["b"] * 60)
        self.tells(("run", "even", ["b"] * 60), least_tree, SETTING, ["b"] * 60)
        self.tells(2, least_height, SETTING, ["a"] * 60)
        for table in MANY_TABLES + tuple(all_tables(4)[::700]):
            setting = some_setting(table)
            log = long_log(setting, 60)
            tree = self.told(least_tree, setting, log)
            self.assertTrue(is_sound(setting, tree))
            self.assertEqual(log_in(tree), log)
            self.tells(height_in(tree), least_height, setting, log)
            self.tells(True, is_least_tree, setting, log, tree)
            self.tells(False, is_least_tree, setting, log, comb(log[0], 60))
            self.assertLessEqual(height_in(tree), 6)

    def test_a_tree_with_another_log_is_none(self):
        self.tells(True, is_least_tree, SETTING, ["a", "b"], ("pair", "a", "b"))
        for log in (["b", "a"], ["a"], ["a", "b", "b"], ["a", "a"]):
            self.tells(False, is_least_tree, SETTING, log, ("pair", "a", "b"))
        self.tells(False, is_least_tree, SETTING, ["b"] * 3, ("pair", "b", ("pair", "b", "b")))
        self.tells(True, is_least_tree, SETTING, ["b"] * 3, ("run", "even", ["b"] * 3))

    def test_the_empty_log(self):
        for function in (least_height, least_tree, pairs_alone):
            empty = []
            self.raises(Refused, empty, function, SETTING, empty)
            self.raises(Refused, empty, function, log=empty, setting=SETTING)
        for value in (None, [], "a", TREE, 0, (), {}, "", ("pair", "a", "a")):
            self.tells(False, is_least_tree, SETTING, [], value)

    def test_any_object_is_judged(self):
        for value in NO_TREES:
            self.tells(False, is_least_tree, SETTING, ["b", "b"], value)
            self.tells(False, is_least_tree, value=value, log=["a"], setting=SETTING)

    def test_pairs_alone(self):
        for number, wanted in [(1, 0), (2, 1), (3, 2), (4, 2), (5, 3), (8, 3), (9, 4), (16, 4), (17, 5), (32, 5),
                               (33, 6), (60, 6), (64, 6), (65, 7), (512, 9), (513, 10), (600, 10)]:
            for deed in ("a", "b"):
                self.tells(wanted, pairs_alone, SETTING, [deed] * number)

    def test_wrong_ones(self):
        wrong = {"setting": (InvalidSetting, no_settings()), "log": (InvalidLog, no_logs())}
        for function in (least_height, least_tree, pairs_alone):
            self.wrong_one_by_one(function, {"setting": SETTING, "log": ["a", "b"]}, wrong)
            self.raises(InvalidSetting, None, function, None, [])
        for value in (("pair", "a", "b"), None, "a"):
            self.wrong_one_by_one(is_least_tree, {"setting": SETTING, "log": ["a", "b"], "value": value}, wrong)


class Tall(Case):
    """[27]: greatest_height, tall_row, is_tall_row."""

    def least(self, table, row):
        setting = Setting(Kinds(table), {word: word for word in words_of(table)}, [])
        return min(map(height_in, all_trees(setting, row)))

    def check(self, table, number):
        kinds = Kinds(table)
        rows = rows_of(words_of(table), number)
        tops = [self.least(table, row) for row in rows]
        self.tells(max(tops), greatest_height, kinds, number)
        tall = self.told(tall_row, kinds, number)
        self.assertEqual((len(tall), self.least(table, tall)), (number, max(tops)))
        for row, top in list(zip(rows, tops))[::max(1, len(rows) // 20)]:
            self.same(is_tall_row(kinds, number, row), top == max(tops))
        for value in (tall[1:], tall + tall[:1], tuple(tall), [tall], None):
            self.tells(False, is_tall_row, kinds, number, value)

    def test_against_all_trees(self):
        for table in MANY_TABLES + tuple(all_tables(2)):
            for number in (1, 2, 3):
                self.check(table, number)
        for table in (ONE, PARITY, DULL):
            self.check(table, 5)

    def test_every_number_that_lists_let(self):
        for table in MANY_TABLES + tuple(all_tables(2)) + tuple(all_tables(3)[::20]) + tuple(all_tables(4)[::900]):
            many = len(words_of(table))
            kinds = Kinds(table)
            numbers = [number for number in range(1, 13) if many ** number <= 512]
            tops = [greatest_height(kinds, number) for number in numbers]
            self.assertEqual(tops[:2], [0, 1])
            self.assertLessEqual(max(tops), 3 * many - 1)
            self.same(is_tall_row(kinds, numbers[-1], tall_row(kinds, numbers[-1])), True)

    def test_by_hand(self):
        self.assertEqual([greatest_height(Kinds(ONE), number) for number in (1, 2, 3, 12, 60)], [0, 1, 1, 1, 1])
        self.assertEqual([greatest_height(Kinds(PARITY), number) for number in range(1, 7)], [0, 1, 2, 2, 3, 3])
        for table in (CHAIN, CORNERS):
            self.tells(2, greatest_height, Kinds(table), 3)

    def test_any_object_is_judged(self):
        for number in (1, 2, 3):
            for value in odd_objects():
                self.tells(False, is_tall_row, Kinds(PARITY), number, value)
        for word in ("odd", "even"):
            self.tells(True, is_tall_row, Kinds(PARITY), 1, [word])
        for value in (("odd",), "odd", ["Odd"], [["odd"]], [None], [True], [Kinds(ONE)], ["odd", None], [("odd",)]):
            self.tells(False, is_tall_row, value=value, number=1, kinds=Kinds(PARITY))

    def test_wrong_ones(self):
        wrong = {"kinds": (InvalidKinds, no_kinds()), "number": (InvalidCount, no_counts(1))}
        for function in (greatest_height, tall_row):
            self.wrong_one_by_one(function, {"kinds": Kinds(PARITY), "number": 2}, wrong)
            self.raises(InvalidCount, True, function, Kinds(PARITY), True)
            self.raises(InvalidCount, 0, function, Kinds(PARITY), 0)
        for value in (["odd", "odd"], None, []):
            self.wrong_one_by_one(is_tall_row, {"kinds": Kinds(PARITY), "number": 2, "value": value}, wrong)


class Knots(Case):
    """[28]: knots_of, opposite_tree."""

    def check(self, setting, tree):
        knots = [knot[:3] for knot in knots_in(tree)]
        self.tells(knots, knots_of, setting, tree)
        self.assertEqual(knots, sorted(knots, key=lambda knot: (knot[0], -knot[1])))
        turned = turned_tree(tree)
        self.tells(turned, opposite_tree, setting, tree)
        other = opposite_setting(setting)
        self.tells(True, is_tree, other, turned)
        self.tells(log_in(tree)[::-1], log_of, other, turned)
        self.tells(height_in(tree), height_of, other, turned)
        self.tells(tree, opposite_tree, other, turned)

    def test_all_trees_of_short_logs(self):
        for table in MANY_TABLES:
            setting = some_setting(table)
            for log in (long_log(setting, 1), long_log(setting, 2), long_log(setting, 5)):
                for tree in all_trees(setting, log)[::5]:
                    self.check(setting, tree)

    def test_by_hand(self):
        self.tells([(0, 1, 0)], knots_of, SETTING, "a")
        self.tells("a", opposite_tree, SETTING, "a")
        self.tells([(0, 2, 1), (0, 1, 0), (1, 2, 0)], knots_of, SETTING, ("pair", "a", "b"))
        self.tells(("pair", "b", "a"), opposite_tree, SETTING, ("pair", "a", "b"))
        self.check(SETTING, TREE)
        self.tells([(0, 6, 3), (0, 1, 0), (1, 6, 2), (1, 5, 1), (1, 2, 0), (2, 3, 0), (3, 4, 0), (4, 5, 0), (5, 6, 0)],
                   knots_of, tree=TREE, setting=SETTING)

    def test_trees_of_sixty_deeds(self):
        for tree in (comb("a", 60), comb("b", 60, False), deep_runs(60), ("run", "even", ["b"] * 60)):
            self.check(SETTING, tree)

    def test_lists_of_the_tree_may_be_changed_afterwards(self):
        tree = ("run", "even", ["b", ("run", "even", ["b", "b"])])
        turned = opposite_tree(SETTING, tree)
        picture = strict(turned)
        tree[2][1][2].append("a")
        tree[2].append("b")
        self.assertEqual(strict(turned), picture)


if __name__ == "__main__":
    unittest.main()
