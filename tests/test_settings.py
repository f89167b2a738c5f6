"""[15], [19]: settings, and settings that are made of settings."""

import unittest

from kindtwice.errors import InvalidDeeds, InvalidKinds, InvalidMap, InvalidSetting, InvalidTwice
from kindtwice.kinds import Kinds, opposite, own_squares, put_all
from kindtwice.settings import Setting, kind_between, kind_of, opposite_setting, renamed, with_twice
from tests.helping import (CHAIN, CORNERS, DULL, FIRST_STAYS, LAST_STAYS, LONG, MANY_TABLES, ONE, PARITY, Case,
                           all_tables, no_kinds, no_settings, odd_objects, rows_of, some_setting,
                           stretches, subsets, turned, words_of, wreck)

DEEDS = {"b": "even", "a": "odd"}


class Made(Case):
    """[15]: what a setting is made of, and what it tells."""

    def test_it_tells_what_it_was_made_of(self):
        for table in MANY_TABLES:
            words = words_of(table)
            deeds = dict(zip(["do", "a", "zz", "keep", "b", "mm"], (words * 6)[:max(6, len(words))]))
            for twice in subsets(own_squares(Kinds(table))):
                setting = Setting(Kinds(table), deeds, twice)
                self.tells(Kinds(table), setting.kinds)
                self.tells({deed: deeds[deed] for deed in sorted(deeds)}, setting.deeds)
                self.tells(twice, setting.twice)

    def test_by_the_names_of_the_interface(self):
        setting = Setting(twice=["even"], deeds=DEEDS, kinds=Kinds(PARITY))
        self.same(setting, Setting(Kinds(PARITY), {"a": "odd", "b": "even"}, ["even"]))

    def test_deeds_may_be_called_like_kinds(self):
        setting = Setting(Kinds(PARITY), {"odd": "even", "even": "odd"}, [])
        self.tells({"even": "odd", "odd": "even"}, setting.deeds)
        self.same(kind_of(setting, ["even", "odd", "odd"]), "odd")

    def test_deeds_of_one_letter_and_of_eight(self):
        for deed in ["a", "z", "abcdefgh", "zzzzzzzz"]:
            self.same(Setting(Kinds(ONE), {deed: "k"}, []).deeds(), {deed: "k"})

    def test_more_deeds_than_the_limit_are_no_error(self):
        deeds = {deed: "k" for deed in "abcdefghij"}
        self.tells(deeds, Setting(Kinds(ONE), deeds, ["k"]).deeds)

    def test_what_was_passed_may_be_changed(self):
        table, deeds, twice = dict(PARITY), dict(DEEDS), ["even"]
        kinds = Kinds(table)
        setting = Setting(kinds, deeds, twice)
        for passed in (table, deeds, twice):
            wreck(passed)
        self.same(setting, Setting(Kinds(PARITY), DEEDS, ["even"]))
        self.same(kind_of(setting, ["a", "b"]), "odd")

    def test_what_was_returned_may_be_changed(self):
        setting = Setting(Kinds(PARITY), DEEDS, ["even"])
        wreck(setting.deeds())
        wreck(setting.twice())
        wreck(setting.kinds().table())
        wreck(setting.kinds().words())
        setting.deeds()["c"] = "odd"
        setting.twice().append("odd")
        self.same(setting, Setting(Kinds(PARITY), DEEDS, ["even"]))


class Wrong(Case):
    """[15]: what is no setting, argument by argument."""

    def no_deeds(self, deeds, table=PARITY):
        self.raises(InvalidDeeds, deeds, Setting, Kinds(table), deeds, [])
        self.raises(InvalidDeeds, deeds, Setting, kinds=Kinds(table), deeds=deeds, twice=None)

    def no_twice(self, twice, table=PARITY):
        deeds = dict(zip("abcdef", words_of(table)))
        self.raises(InvalidTwice, twice, Setting, Kinds(table), deeds, twice)
        self.raises(InvalidTwice, twice, with_twice, Setting(Kinds(table), deeds, []), twice)

    def test_each_alone_and_beside_others(self):
        deeds = odd_objects() + [dict(PARITY), Kinds(PARITY)]
        twice = [one for one in odd_objects() if one != []] + [("even",), "even", {"even": 1}]
        wrong = {"kinds": (InvalidKinds, no_kinds()), "deeds": (InvalidDeeds, deeds), "twice": (InvalidTwice, twice)}
        self.wrong_one_by_one(Setting, {"kinds": Kinds(PARITY), "deeds": DEEDS, "twice": ["even"]}, wrong)

    def test_kinds_that_no_deed_has(self):
        for table in MANY_TABLES:
            for kind in words_of(table):
                others = [word for word in words_of(table) if word != kind]
                self.no_deeds(dict(zip("abcdef", others)), table)
                if others:
                    self.no_deeds(dict(zip("abcdef", others * 6)), table)
        self.no_deeds({})
        self.no_deeds({"a": "odd"})
        self.no_deeds({"a": "even", "b": "even"})

    def test_deeds_of_what_is_no_kind(self):
        for kind in ["more", "Odd", "", None, True, 0, 1, ["odd"], ("odd",), {"odd": 1}, Kinds(PARITY), "a"]:
            self.no_deeds({**DEEDS, "c": kind})
            self.no_deeds({"c": kind, **DEEDS})
            self.no_deeds({"a": kind, "b": "even"})

    def test_deeds_that_are_no_words(self):
        for deed in ["", "A", "abcdefghi", "a b", "a1", " a", "a\n", "1", 0, 1, None, True, ("a",), (), "-",
                     InvalidKinds("a")]:
            self.no_deeds({**DEEDS, deed: "odd"})
            self.no_deeds({deed: "k"}, ONE)

    def test_deeds_that_are_no_dictionary(self):
        for deeds in [["a", "b"], [("a", "odd"), ("b", "even")], "ab", ("a", "b"), [DEEDS], None, Kinds(PARITY),
                      Setting(Kinds(PARITY), DEEDS, [])]:
            self.no_deeds(deeds)

    def test_twice_of_kinds_that_are_no_own_squares(self):
        self.no_twice(["odd"])
        self.no_twice(["even", "odd"])
        self.no_twice(["x"], DULL)
        for table in MANY_TABLES:
            squares = own_squares(Kinds(table))
            for kind in words_of(table):
                if kind not in squares:
                    self.no_twice([kind], table)
                    self.no_twice(sorted(squares + [kind]), table)

    def test_twice_not_ascending_or_with_doubles(self):
        self.no_twice(["even", "even"])
        for table in (CHAIN, FIRST_STAYS, CORNERS):
            squares = own_squares(Kinds(table))
            for one in squares:
                self.no_twice([one, one], table)
                for other in squares:
                    if other < one:
                        self.no_twice([one, other], table)
                        self.no_twice([other, one, one], table)
                        self.no_twice([other, one, other], table)
            self.no_twice(squares[::-1], table)
            self.no_twice(squares + [squares[-1]], table)

    def test_twice_that_is_no_list_of_kinds(self):
        for twice in [("even",), (), "even", {"even": "even"}, {}, None, True, False, 0, [None], [["even"]], ["Even"],
                      ["even", None], [("even",)], ["a"], ["more"], ["even", 1], [True], Kinds(PARITY)]:
            self.no_twice(twice)

    def test_own_squares_may_be_in_twice_or_not(self):
        for table in MANY_TABLES + tuple(all_tables(3)[::9]):
            deeds = dict(zip("abcdef", words_of(table)))
            for twice in subsets(own_squares(Kinds(table))):
                self.same(Setting(Kinds(table), deeds, twice).twice(), twice)


class Equality(Case):
    """[15], [2]: settings are equal exactly if all three are."""

    def test_each_of_the_three_counts(self):
        def made():
            return [
                Setting(Kinds(FIRST_STAYS), {"x": "a", "y": "b", "z": "c"}, ["a", "b"]),
                Setting(Kinds(LAST_STAYS), {"x": "a", "y": "b", "z": "c"}, ["a", "b"]),
                Setting(Kinds(FIRST_STAYS), {"x": "a", "y": "c", "z": "b"}, ["a", "b"]),
                Setting(Kinds(FIRST_STAYS), {"x": "a", "y": "b", "w": "c"}, ["a", "b"]),
                Setting(Kinds(FIRST_STAYS), {"x": "a", "y": "b", "z": "c", "w": "c"}, ["a", "b"]),
                Setting(Kinds(FIRST_STAYS), {"x": "a", "y": "b", "z": "c"}, ["a", "c"]),
                Setting(Kinds(FIRST_STAYS), {"x": "a", "y": "b", "z": "c"}, ["a"]),
                Setting(Kinds(FIRST_STAYS), {"x": "a", "y": "b", "z": "c"}, []),
                Setting(Kinds(ONE), {"x": "k"}, []),
            ]

        for at, one in enumerate(made()):
            for place, other in enumerate(made()):
                self.assertIs(one == other, at == place)
                self.assertIs(one != other, at != place)

    def test_the_order_of_keys_means_nothing(self):
        one = Setting(Kinds(PARITY), {"a": "odd", "b": "even"}, ["even"])
        other = Setting(Kinds(turned(PARITY)), {"b": "even", "a": "odd"}, ["even"])
        self.assertTrue(one == other)
        self.assertTrue(one == one)
        self.same(one, other)

    def test_never_equal_to_an_object_of_another_class(self):
        setting = Setting(Kinds(ONE), {"d": "k"}, ["k"])
        for other in odd_objects() + [Kinds(ONE), {"d": "k"}, ["k"], (Kinds(ONE), {"d": "k"}, ["k"])]:
            self.assertIs(setting == other, False)
            self.assertIs(other == setting, False)
            self.assertIs(setting != other, True)
            self.assertIs(other != setting, True)


class OtherTwice(Case):
    """[19]: with_twice."""

    def test_equal_to_the_one_made_directly(self):
        for table in MANY_TABLES:
            setting = some_setting(table)
            for twice in subsets(own_squares(Kinds(table))):
                wanted = Setting(setting.kinds(), setting.deeds(), twice)
                self.tells(wanted, with_twice, setting, twice)
                self.tells(wanted, with_twice, twice=twice, setting=setting)
                self.assertEqual(with_twice(setting, twice), wanted)
                self.assertEqual(with_twice(wanted, setting.twice()), setting)

    def test_the_list_may_be_changed(self):
        twice = ["even"]
        setting = with_twice(Setting(Kinds(PARITY), DEEDS, []), twice)
        twice.append("odd")
        self.same(setting.twice(), ["even"])

    def test_wrong_ones(self):
        wrong = {"setting": (InvalidSetting, no_settings()),
                 "twice": (InvalidTwice, [one for one in odd_objects() if one != []] + [("even",), ["odd"]])}
        self.wrong_one_by_one(with_twice, {"setting": Setting(Kinds(PARITY), DEEDS, []), "twice": ["even"]}, wrong)


class Opposite(Case):
    """[19]: opposite_setting."""

    def test_equal_to_the_one_made_directly(self):
        for table in MANY_TABLES:
            for twice in subsets(own_squares(Kinds(table))):
                setting = with_twice(some_setting(table), twice)
                wanted = Setting(opposite(setting.kinds()), setting.deeds(), twice)
                self.tells(wanted, opposite_setting, setting)
                self.assertEqual(opposite_setting(setting=setting), wanted)
                self.assertEqual(opposite_setting(wanted), setting)

    def test_by_hand(self):
        deeds = {"x": "a", "y": "b", "z": "c"}
        self.assertEqual(opposite_setting(Setting(Kinds(FIRST_STAYS), deeds, ["b"])),
                         Setting(Kinds(LAST_STAYS), deeds, ["b"]))

    def test_logs_turned_about_keep_their_kinds(self):
        for table in (FIRST_STAYS, LAST_STAYS, LONG, CORNERS):
            setting = some_setting(table)
            turned_about = opposite_setting(setting)
            for log in rows_of(list(setting.deeds()), 3):
                self.assertEqual(kind_of(turned_about, log[::-1]), kind_of(setting, log))
                for first, last, _ in stretches(log):
                    self.assertEqual(kind_between(turned_about, log[::-1], 3 - last, 3 - first),
                                     kind_between(setting, log, first, last))

    def test_wrong_ones(self):
        self.wrong_one_by_one(opposite_setting, {"setting": some_setting(PARITY)},
                              {"setting": (InvalidSetting, no_settings())})


class Renamed(Case):
    """[19]: renamed."""

    def refused(self, setting, sent):
        self.raises(InvalidMap, sent, renamed, setting, sent)
        self.raises(InvalidMap, sent, renamed, sent=sent, setting=setting)

    def test_new_words(self):
        setting = Setting(Kinds(PARITY), DEEDS, ["even"])
        for sent in ({"a": "on", "b": "off"}, {"b": "off", "a": "on"}):
            wanted = Setting(Kinds(PARITY), {"on": "odd", "off": "even"}, ["even"])
            self.tells(wanted, renamed, setting, sent)
            self.assertEqual(renamed(sent=sent, setting=setting), wanted)
            self.tells({"off": "even", "on": "odd"}, renamed(setting, sent).deeds)

    def test_deeds_exchanged(self):
        setting = Setting(Kinds(PARITY), DEEDS, ["even"])
        wanted = Setting(Kinds(PARITY), {"a": "even", "b": "odd"}, ["even"])
        self.tells(wanted, renamed, setting, {"a": "b", "b": "a"})
        self.assertEqual(renamed(wanted, {"a": "b", "b": "a"}), setting)
        self.assertEqual(renamed(setting, {"a": "a", "b": "b"}), setting)
        wanted = Setting(Kinds(PARITY), {"b": "odd", "c": "even"}, ["even"])
        self.assertEqual(renamed(setting, {"a": "b", "b": "c"}), wanted)

    def test_deeds_sent_round(self):
        setting = Setting(Kinds(FIRST_STAYS), {"p": "a", "q": "b", "r": "c", "s": "c"}, ["c"])
        sent = {"p": "q", "q": "r", "r": "s", "s": "p"}
        wanted = Setting(Kinds(FIRST_STAYS), {"q": "a", "r": "b", "s": "c", "p": "c"}, ["c"])
        self.tells(wanted, renamed, setting, sent)
        for log in rows_of("pqrs", 3):
            self.assertEqual(kind_of(wanted, [sent[deed] for deed in log]), kind_of(setting, log))

    def test_logs_keep_their_kinds(self):
        for table in MANY_TABLES:
            setting = some_setting(table)
            sent = {deed: deed + "o" for deed in setting.deeds()}
            other = renamed(setting, sent)
            self.assertEqual(other.kinds(), setting.kinds())
            self.assertEqual(other.twice(), setting.twice())
            for log in rows_of(list(setting.deeds()), 2):
                kind = put_all(setting.kinds(), [setting.deeds()[deed] for deed in log])
                self.assertEqual(kind_of(other, [sent[deed] for deed in log]), kind)
                self.assertEqual(kind_of(setting, log), kind)

    def test_words_of_eight_letters(self):
        setting = Setting(Kinds(ONE), {"d": "k"}, [])
        self.same(renamed(setting, {"d": "abcdefgh"}).deeds(), {"abcdefgh": "k"})
        self.refused(setting, {"d": "abcdefghi"})

    def test_two_deeds_sent_to_one_word(self):
        setting = Setting(Kinds(PARITY), DEEDS, ["even"])
        for word in ["a", "b", "c", "odd"]:
            self.refused(setting, {"a": word, "b": word})

    def test_a_deed_left_out_and_one_too_many(self):
        setting = Setting(Kinds(PARITY), DEEDS, ["even"])
        for sent in [{}, {"a": "c"}, {"b": "c"}, {"a": "c", "b": "d", "c": "e"}, {"a": "c", "c": "d"},
                     {"a": "c", "b": "d", None: "e"}, {"a": "c", "b": "d", 1: 2}, {"a": "c", True: "d"},
                     {"a": "x", ("b",): "y"}, {"c": "a", "d": "b"}, {"A": "c", "b": "d"}, {"odd": "c", "even": "d"}]:
            self.refused(setting, sent)

    def test_deeds_sent_to_what_is_no_word(self):
        setting = Setting(Kinds(PARITY), DEEDS, ["even"])
        for word in ["", "A", "abcdefghi", "a b", "a1", " a", "a\n", 0, 1, None, True, ("a",), ["c"], {}, {"c": "c"},
                     Kinds(ONE), InvalidMap("c")]:
            self.refused(setting, {"a": word, "b": "c"})
            self.refused(setting, {"b": word, "a": "c"})
            self.refused(setting, {"a": word, "b": word})

    def test_wrong_ones(self):
        wrong = {"setting": (InvalidSetting, no_settings()),
                 "sent": (InvalidMap, odd_objects() + [["a", "b"], [("a", "c"), ("b", "d")], "ab", ("a", "b")])}
        good = {"setting": Setting(Kinds(PARITY), DEEDS, []), "sent": {"a": "c", "b": "d"}}
        self.wrong_one_by_one(renamed, good, wrong)


if __name__ == "__main__":
    unittest.main()
