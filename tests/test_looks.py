"""[29] to [32]: looks at stretches, hardest stretches, and deeds that may stand at a place."""

import unittest

from kindtwice.errors import InvalidDeed, InvalidPlace, InvalidSetting, InvalidTree, Refused
from kindtwice.kinds import Kinds
from kindtwice.looks import (are_least_looks, are_looks, fewest_looks, fitting, hardest_stretch, is_hardest_stretch,
                             knots_with, least_looks, most_looks, with_deed)
from kindtwice.settings import Setting, kind_between
from kindtwice.trees import height_of, is_tree, knots_of, least_tree, low_tree
from tests.helping import (CORNERS, FIRST_STAYS, LONG, MANY_TABLES, ONE, PARITY, Case, long_log, no_counts,
                           no_settings, odd_objects, put_together, some_setting, strict)
from tests.plain import all_looks, all_trees, height_in, is_sound, knots_in, log_in, single_looks, tree_with

SETTING = Setting(Kinds(PARITY), {"a": "odd", "b": "even", "c": "even"}, ["even"])
TREE = ("pair", "a", ("pair", ("run", "even", ["b", "b", "b", "b"]), "a"))
NO_TREES = odd_objects()[4:] + [None, True, 0, ("pair", "a"), ("run", "odd", ["a", "a"]), ("run", "even", ["b"]),
                                ("pair", "a", "d"), ["pair", "a", "b"]]
NO_TREES = [one for one in NO_TREES if one != "a"]


def some_trees(setting, most=12):
    """A few trees of short logs."""
    found = []
    for number in (1, 2, 4, 5):
        trees = all_trees(setting, long_log(setting, number))
        found += trees[::max(1, len(trees) // most)]
    return found


def stretches_of(tree):
    many = len(log_in(tree))
    return [(first, last) for first in range(many) for last in range(first + 1, many + 1)]


def comb(deed, number):
    tree = deed
    for _ in range(number - 1):
        tree = ("pair", deed, tree)
    return tree


class Looks(Case):
    """[29], [30]: are_looks, least_looks, fewest_looks, are_least_looks."""

    def check(self, setting, tree):
        table = setting.kinds().table()
        single = single_looks(setting, tree)
        for first, last in stretches_of(tree):
            every = all_looks(single, first, last)
            fewest = min(map(len, every))
            self.same(fewest_looks(setting, tree, first, last), fewest)
            least = least_looks(setting, tree, first, last)
            self.assertIn(strict(least), [strict(looks) for looks in every if len(looks) == fewest])
            kind = kind_between(setting, log_in(tree), first, last)
            self.assertEqual(put_together(table, [look[2] for look in least]), kind)
            if height_in(tree) > 0:
                self.assertLessEqual(fewest, 2 * height_in(tree) - 1)
            for looks in every[::max(1, len(every) // 6)]:
                self.same(are_looks(setting, tree, first, last, looks), True)
                self.same(are_least_looks(setting, tree, first, last, looks), len(looks) == fewest)
                for at in range(len(looks)):
                    self.same(are_looks(setting, tree, first, last, looks[:at] + looks[at + 1:]), False)
                    self.same(are_looks(setting, tree, first, last, looks[:at + 1] + looks[at:]), False)

    def test_every_stretch_of_small_trees(self):
        for table in MANY_TABLES:
            setting = some_setting(table)
            for tree in some_trees(setting):
                self.check(setting, tree)
        self.check(SETTING, TREE)
        self.check(SETTING, ("run", "even", ["b", ("run", "even", ["b", "b", "c"]), "c", "b"]))
        self.check(SETTING, ("run", "even", [("pair", "a", "a"), ("pair", ("run", "even", ["b", "c"]), "b"), "b"]))

    def test_all_tuples_by_the_words(self):
        for tree in (TREE, ("run", "even", ["b", ("pair", "a", "a"), "c"]), ("pair", ("run", "even", ["b"] * 3), "a")):
            single = single_looks(SETTING, tree)
            for first, last in stretches_of(tree):
                for kind in ("even", "odd", "Even", None, ""):
                    self.same(are_looks(SETTING, tree, first, last, [(first, last, kind)]),
                              (first, last, kind) in single)

    def test_neighbouring_parts_of_a_run_of_a_run(self):
        tree = ("run", "even", ["b", ("run", "even", ["b", "b", "b"]), "b"])
        self.tells(True, are_looks, SETTING, tree, 1, 3, [(1, 3, "even")])
        self.tells(False, are_looks, SETTING, tree, 0, 2, [(0, 2, "even")])
        self.tells(False, are_looks, SETTING, tree, 0, 3, [(0, 3, "even")])
        self.tells(True, are_looks, SETTING, tree, 0, 4, [(0, 4, "even")])
        self.tells(2, fewest_looks, SETTING, tree, 0, 3)
        self.tells([(0, 1, "even"), (1, 3, "even")], least_looks, SETTING, tree, 0, 3)
        self.tells(True, are_least_looks, last=3, first=0, tree=tree, setting=SETTING,
                   value=[(0, 1, "even"), (1, 3, "even")])
        self.tells(False, are_least_looks, SETTING, tree, 0, 3, [(0, 1, "even"), (1, 2, "even"), (2, 3, "even")])
        self.tells(True, are_looks, SETTING, tree, 0, 3, [(0, 1, "even"), (1, 2, "even"), (2, 3, "even")])

    def test_looks_that_do_not_join_or_end_elsewhere(self):
        for value in [[(0, 1, "odd")], [(1, 3, "even")], [(0, 1, "odd"), (1, 2, "even")],
                      [(1, 3, "even"), (0, 1, "odd")], [(0, 1, "odd"), (2, 3, "even")],
                      [(0, 1, "odd"), (1, 3, "even"), (3, 4, "even")],
                      [(0, 1, "odd"), (0, 1, "odd"), (1, 3, "even")], [(0, 6, "even")], [],
                      [(0, 1, "odd"), (1, 3, "odd")], [(0, 1, "even"), (1, 3, "even")],
                      [(0, 1, "odd"), (1, 1, "even"), (1, 3, "even")]]:
            self.tells(False, are_looks, SETTING, TREE, 0, 3, value)
            self.tells(False, are_least_looks, SETTING, TREE, 0, 3, value)
        self.tells(True, are_least_looks, SETTING, TREE, 0, 3, [(0, 1, "odd"), (1, 3, "even")])

    def test_any_object_is_judged(self):
        for value in odd_objects() + [[(0, 1)], [(0, 1, "odd", 0)], [[0, 1, "odd"]], ((0, 1, "odd"),), (0, 1, "odd"),
                                      [(False, 1, "odd")], [(0, True, "odd")], [(0, 1, ["odd"])], [(0, 1, None)],
                                      [("0", "1", "odd")], [([0], 1, "odd")], [(0, {}, "odd")], [None],
                                      [(0, 1, "odd"), None], [(Kinds(PARITY), 1, "odd")], [(0, 1, Kinds(PARITY))],
                                      {(0, 1, "odd"): 1}, [SETTING],
                                      [(-1, 1, "odd")], [(0, 10 ** 30, "odd")]]:
            for function in (are_looks, are_least_looks):
                self.tells(False, function, SETTING, TREE, 0, 1, value)
                self.tells(False, function, value=value, last=1, first=0, tree=TREE, setting=SETTING)
        for function in (are_looks, are_least_looks):
            self.tells(True, function, SETTING, TREE, 0, 1, [(0, 1, "odd")])
            self.tells(True, function, SETTING, "a", 0, 1, [(0, 1, "odd")])

    def test_trees_of_sixty_deeds(self):
        for tree, most in [(comb("a", 60), 59), (("run", "even", ["b"] * 60), 1), (comb("b", 60), 59)]:
            self.tells(most, most_looks, SETTING, tree)
            self.tells(1, fewest_looks, SETTING, tree, 0, 60)
            self.tells(most if most == 1 else 58, fewest_looks, SETTING, tree, 1, 59)
            self.assertEqual(self.told(hardest_stretch, SETTING, tree) == (0, 59), most == 59)
            self.tells(True, are_least_looks, SETTING, tree, 2, 41, least_looks(SETTING, tree, 2, 41))
        for table in MANY_TABLES:
            setting = some_setting(table)
            for tree in (least_tree(setting, long_log(setting, 60)), low_tree(setting, long_log(setting, 60))):
                most = self.told(most_looks, setting, tree)
                self.assertLessEqual(most, 2 * height_of(setting, tree) - 1)
                first, last = self.told(hardest_stretch, setting, tree)
                self.tells(most, fewest_looks, setting, tree, first, last)
                self.tells(True, is_hardest_stretch, setting, tree, (first, last))

    def test_points_at_the_edges(self):
        for function in (least_looks, fewest_looks):
            for first in (6, 7, -1, True, False, None, "0", 10 ** 30):
                for last in (6, 7, first, None):
                    self.raises(InvalidPlace, first, function, SETTING, TREE, first, last)
            for last in (0, 2, 7, -1, True, None, "6", 10 ** 30):
                self.raises(InvalidPlace, last, function, SETTING, TREE, 2, last)
        self.raises(InvalidPlace, 1, fewest_looks, SETTING, "a", 1, 1)
        self.tells(1, fewest_looks, SETTING, "a", 0, 1)

    def test_wrong_ones(self):
        places = no_counts(0)[::2] + [6, 10 ** 30]
        wrong = {"setting": (InvalidSetting, no_settings()[::3]), "tree": (InvalidTree, NO_TREES[::2]),
                 "first": (InvalidPlace, places), "last": (InvalidPlace, places[:-2] + [7, 0, 1, True])}
        good = {"setting": SETTING, "tree": TREE, "first": 1, "last": 3}
        self.wrong_one_by_one(least_looks, good, wrong)
        wrong = {name: (error, objects[::4] + objects[-2:]) for name, (error, objects) in wrong.items()}
        self.wrong_one_by_one(fewest_looks, good, wrong)
        for function in (are_looks, are_least_looks):
            for value in ([(1, 3, "even")], None):
                self.wrong_one_by_one(function, {**good, "value": value}, wrong)
        for value in NO_TREES:
            self.raises(InvalidTree, value, fewest_looks, SETTING, value, 0, 1)


class Hardest(Case):
    """[31]: most_looks, hardest_stretch, is_hardest_stretch."""

    def check(self, setting, tree):
        single = single_looks(setting, tree)
        fewest = {stretch: min(map(len, all_looks(single, *stretch))) for stretch in stretches_of(tree)}
        most = max(fewest.values())
        self.tells(most, most_looks, setting, tree)
        self.assertEqual(fewest[self.told(hardest_stretch, setting, tree)], most)
        for stretch in fewest:
            self.same(is_hardest_stretch(setting, tree, stretch), fewest[stretch] == most)
            self.same(is_hardest_stretch(setting, tree, list(stretch)), False)

    def test_every_stretch_of_small_trees(self):
        for table in MANY_TABLES:
            setting = some_setting(table)
            for tree in some_trees(setting, 6):
                self.check(setting, tree)
        self.check(SETTING, TREE)

    def test_a_deed_alone(self):
        self.tells(1, most_looks, SETTING, "a")
        self.tells((0, 1), hardest_stretch, SETTING, "a")
        self.tells(True, is_hardest_stretch, SETTING, "a", (0, 1))
        for value in [(0, 0), (1, 1), (1, 0), (0, 2), (0, True), (False, 1), (False, True), [0, 1], (0,), (0, 1, 0)]:
            self.tells(False, is_hardest_stretch, SETTING, "a", value)

    def test_any_object_is_judged(self):
        for value in odd_objects() + [("0", "1"), ([0], 1), (0, None), (0, {}), (Kinds(PARITY), 1), {0: 1}, [(0, 1)]]:
            self.tells(strict(value) == strict((0, 1)), is_hardest_stretch, SETTING, "a", value)
            self.tells(strict(value) == strict((0, 1)), is_hardest_stretch, value=value, tree="b", setting=SETTING)

    def test_wrong_ones(self):
        wrong = {"setting": (InvalidSetting, no_settings()), "tree": (InvalidTree, NO_TREES)}
        for function in (most_looks, hardest_stretch):
            self.wrong_one_by_one(function, {"setting": SETTING, "tree": TREE}, wrong)
        for value in ((0, 1), None):
            self.wrong_one_by_one(is_hardest_stretch, {"setting": SETTING, "tree": TREE, "value": value}, wrong)


class Places(Case):
    """[32]: knots_with, fitting, with_deed."""

    def check(self, setting, tree):
        for place in range(len(log_in(tree))):
            knots = [knot[:3] for knot in knots_in(tree) if knot[0] <= place < knot[1]]
            self.same(knots_with(setting, tree, place), knots)
            self.assertLessEqual(len(knots), height_in(tree) + 1)
            others = {deed: tree_with(tree, place, deed) for deed in setting.deeds()}
            wanted = [deed for deed in sorted(others) if is_sound(setting, others[deed])]
            self.same(fitting(setting, tree, place), wanted)
            for deed in others:
                if deed in wanted:
                    self.same(with_deed(setting, tree, place, deed), others[deed])
                else:
                    self.raises(Refused, deed, with_deed, setting, tree, place, deed)

    def test_every_place_and_deed_of_small_trees(self):
        for table in MANY_TABLES:
            setting = some_setting(table)
            for tree in some_trees(setting):
                self.check(setting, tree)
        for tree in (TREE, "a", "b", ("pair", "a", "a"), ("run", "even", [("pair", "a", "a"), ("pair", "b", "b"), "c"]),
                     ("run", "even", [("run", "even", ["b", ("pair", "a", "a")]), "b"])):
            self.check(SETTING, tree)

    def test_kinds_may_change_within_a_part_that_keeps_its_own(self):
        setting = Setting(Kinds(FIRST_STAYS), {"x": "a", "y": "b", "z": "c"}, [])
        tree = ("run", "a", ["x", ("pair", "x", ("pair", "y", "z"))])
        self.tells(["x"], fitting, setting, tree, 1)
        self.tells(["x", "y", "z"], fitting, setting, tree, 2)
        self.tells(("run", "a", ["x", ("pair", "x", ("pair", "z", "z"))]), with_deed, setting, tree, 2, "z")
        self.check(setting, tree)

    def test_without_a_run_above_all_deeds_fit(self):
        for table in (PARITY, LONG, CORNERS):
            setting = some_setting(table)
            tree = comb(list(setting.deeds())[0], 6)
            for place in range(6):
                self.tells(list(setting.deeds()), fitting, setting, tree, place)

    def test_each_call_again(self):
        self.tells([(0, 6, 3), (0, 1, 0)], knots_with, SETTING, TREE, 0)
        self.tells([(0, 6, 3), (1, 6, 2), (1, 5, 1), (4, 5, 0)], knots_with, place=4, tree=TREE, setting=SETTING)
        self.tells(["b", "c"], fitting, place=4, tree=TREE, setting=SETTING)
        self.tells(("pair", "a", ("pair", ("run", "even", ["b", "b", "b", "c"]), "a")), with_deed, deed="c", place=4,
                   tree=TREE, setting=SETTING)
        self.tells(("pair", "c", ("pair", ("run", "even", ["b", "b", "b", "b"]), "a")), with_deed, SETTING, TREE, 0,
                   "c")
        self.tells(TREE, with_deed, SETTING, TREE, 0, "a")

    def test_lists_of_the_tree_may_be_changed_afterwards(self):
        tree = ("pair", "a", ("run", "even", ["b", ("run", "even", ["b", "b"])]))
        other = with_deed(SETTING, tree, 0, "c")
        picture = strict(other)
        tree[2][2][1][2].append("b")
        tree[2][2].append("b")
        self.assertEqual(strict(other), picture)
        self.tells(True, is_tree, SETTING, other)

    def test_trees_of_sixty_deeds(self):
        for tree in (comb("a", 60), ("run", "even", ["b"] * 60), low_tree(SETTING, long_log(SETTING, 60))):
            for place in (0, 29, 59):
                for deed in fitting(SETTING, tree, place):
                    other = self.told(with_deed, SETTING, tree, place, deed)
                    self.assertEqual(strict(other), strict(tree_with(tree, place, deed)))
                    self.same(knots_of(SETTING, other), knots_of(SETTING, tree))
                self.same(knots_with(SETTING, tree, place)[-1], (place, place + 1, 0))

    def test_places_at_the_edges(self):
        for place in (6, 7, -1, True, False, None, "0", [0], 10 ** 30):
            for function in (knots_with, fitting):
                self.raises(InvalidPlace, place, function, SETTING, TREE, place)
            for deed in ("a", "b", "d", None):
                self.raises(InvalidPlace, place, with_deed, SETTING, TREE, place, deed)

    def test_a_deed_that_does_not_fit(self):
        deed = "".join(["a"])
        self.raises(Refused, deed, with_deed, SETTING, TREE, 2, deed)
        self.raises(Refused, deed, with_deed, deed=deed, place=4, tree=TREE, setting=SETTING)
        for deed in ("d", "odd", "", None, True, ["a"], ("a",), "A", Kinds(ONE)):
            self.raises(InvalidDeed, deed, with_deed, SETTING, TREE, 2, deed)

    def test_wrong_ones(self):
        places = no_counts(0) + [6]
        wrong = {"setting": (InvalidSetting, no_settings()[::2]), "tree": (InvalidTree, NO_TREES[::2]),
                 "place": (InvalidPlace, places[::2]), "deed": (InvalidDeed, NO_TREES[::2])}
        for function in (knots_with, fitting):
            self.wrong_one_by_one(function, {"setting": SETTING, "tree": TREE, "place": 2}, wrong)
        self.wrong_one_by_one(with_deed, {"setting": SETTING, "tree": TREE, "place": 2, "deed": "b"}, wrong)


if __name__ == "__main__":
    unittest.main()
