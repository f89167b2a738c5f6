"""Over the whole program: what the document says in brackets, and everything asked twice, in another order."""

import random
import unittest

from kindtwice import errors
from kindtwice.alike import are_alike, difference, is_plain, steps
from kindtwice.desk import Desk, replayed
from kindtwice.doublings import (doublings, halvings, is_chain, is_doubling, is_squeezed, most_halvings, squeezing,
                                 stays)
from kindtwice.endless import closed, counting_deeds, counting_store, is_endless, open_kinds, opened
from kindtwice.falls import chain_back, done_log, harmful_falls, is_chain_back, is_harmless, many_done
from kindtwice.kinds import Kinds, coming_back, opposite, own_squares, power, put_all
from kindtwice.looks import most_looks
from kindtwice.marks import any_marks, bounds, fewest_marks, is_covered, many_fewest, marks_at, open_points, reach
from kindtwice.papers import kinds_text, logs_text, read_kinds, read_logs, read_setting, setting_text
from kindtwice.rows import longest_row, most_stretches, shortened
from kindtwice.scripts import end_of, play, read_script, script_text
from kindtwice.settings import (Setting, kind_of, many_by_kind, may_redo, opposite_setting, redo_points, renamed,
                                with_twice)
from kindtwice.small import alike_logs, coming_logs, least, least_logs
from kindtwice.stores import Store, behind, both_stores, is_typed, parted_states, same_in, typed_kinds, untyped
from kindtwice.telling import is_telling, own_names, own_store, telling
from kindtwice.trees import bound_of, height_of, heights, kind_by, least_height, least_tree, log_of, low_tree
from tests.days import all_days
from tests.helping import (MANY_TABLES, SETTING, Case, all_tables, free, long_log, odd_objects, strict, subsets,
                           words_of, wreck)
from tests.test_desk import desk_with
from tests.test_general import FUNCTIONS, all_functions
from tests.test_small import SOME

TABLES = list(MANY_TABLES) + all_tables(2) + all_tables(3)[::9] + all_tables(4)[::400]


def drawn_settings(chance, many):
    """Drawn settings, about half of them not endless."""
    found = []
    while len(found) < many:
        table = chance.choice(TABLES)
        words = words_of(table)
        squares = own_squares(Kinds(table))
        names = chance.sample(["a", "b", "go", "zz", "keep", "abcdefgh"], chance.randrange(len(words), 7))
        kinds = words + chance.choices(words, k=len(names) - len(words))
        twice = squares if chance.random() < 0.5 else chance.choice(subsets(squares))
        found.append(Setting(Kinds(table), dict(zip(names, kinds)), twice))
    return found


def drawn_log(chance, setting, most):
    return chance.choices(list(setting.deeds()), k=chance.randrange(0, most + 1))


def drawn_store(chance, setting, many):
    states = ["s" + letter for letter in "abcdefghij"[:many]]
    return Store({state: {deed: chance.choice(states) for deed in setting.deeds()} for state in states})


def typed_stores(chance, setting):
    """Some stores that a setting types."""
    stores = [counting_store(setting, deed, 3) for deed in counting_deeds(setting)]
    for many in (1, 2, 2, 2, 3, 3):
        store = drawn_store(chance, setting, many)
        if is_typed(setting, store):
            stores.append(store)
    return stores


class Brackets(Case):
    """What the document says in brackets, of drawn settings."""

    def setUp(self):
        self.chance = random.Random(self.id())

    def test_marks_that_cover_lead_back(self):
        for setting in drawn_settings(self.chance, 60):
            log = drawn_log(self.chance, setting, 12)
            stores = typed_stores(self.chance, setting)
            marks = marks_at(setting, log, self.chance.randrange(many_fewest(setting, log)))
            falls = []
            for _ in range(self.chance.randrange(0, 6)):
                least_point = max([mark for mark in marks if falls and mark <= falls[-1]], default=0)
                falls.append(self.chance.randrange(least_point, len(log) + 1))
            done = done_log(log, marks, falls)
            chain = chain_back(setting, log, marks, falls)
            self.assertEqual((chain[0], chain[-1], len(done)), (done, log, many_done(log, marks, falls)))
            self.same(is_chain_back(setting, log, marks, falls, chain), True)
            self.same(is_chain(setting, done, log, chain), True)
            for ahead, other in zip(chain, chain[1:]):
                self.same(is_doubling(setting, other, ahead), True)
            for store in stores:
                self.same(same_in(store, done, log), True)
            if is_plain(setting):
                self.same(are_alike(setting, done, log), True)
            if log:
                self.same(stays(setting, done), stays(setting, log))

    def test_alike_logs_lead_to_the_same_in_typed_stores(self):
        for setting in drawn_settings(self.chance, 60):
            log = drawn_log(self.chance, setting, 10)
            chain = [log]
            for _ in range(4):
                further = halvings(setting, chain[-1]) + [one for one in doublings(setting, chain[-1]) if len(one) < 15]
                chain.append(self.chance.choice(further) if further else chain[-1])
            chain = [one for at, one in enumerate(chain) if at == 0 or one != chain[at - 1]]
            self.same(is_chain(setting, log, chain[-1], chain), True)
            self.same(is_chain(setting, chain[-1], log, chain[::-1]), True)
            for store in typed_stores(self.chance, setting):
                self.same(parted_states(store, log, chain[-1]), [])
            if is_plain(setting):
                self.same(difference(setting, log, chain[-1]), None)
                self.same(set(steps(setting, log)) == set(steps(setting, chain[-1])), True)
            logs = squeezing(setting, log)
            self.same(is_squeezed(setting, logs[-1]), True)
            self.assertLessEqual(len(logs) - 1, most_halvings(setting, log))

    def test_untyped_stores_are_broken_by_a_log(self):
        for setting in drawn_settings(self.chance, 60):
            one, other = drawn_store(self.chance, setting, 2), drawn_store(self.chance, setting, 3)
            broken = untyped(setting, one)
            self.same(broken is None, is_typed(setting, one))
            if broken is not None:
                log, state = broken
                self.assertIn(kind_of(setting, log), setting.twice())
                self.assertIn(state, parted_states(one, log, log + log))
                # A doubling that is not the same there.
                self.assertIn(log + log, doublings(setting, log))
            both = both_stores(one, other)
            self.same(is_typed(setting, both), is_typed(setting, one) and is_typed(setting, other))
            for store in (one, other, both):
                kinds = typed_kinds(setting, store)
                self.same(is_typed(setting, store), all(kind in kinds for kind in setting.twice()))
                self.same(is_typed(with_twice(setting, kinds), store), True)

    def test_endless_settings_count(self):
        for setting in drawn_settings(self.chance, 60):
            self.same(is_endless(setting), setting.twice() != own_squares(setting.kinds()))
            self.same(is_endless(closed(setting)), False)
            for kind in setting.twice():
                self.assertIn(kind, open_kinds(opened(setting, kind)))
            for deed in counting_deeds(setting):
                store = counting_store(setting, deed, 6)
                self.same(is_typed(setting, store), True)
                self.same(is_telling(setting, [deed] * 3, [deed] * 5, (store, "a")), True)
                self.same(is_typed(closed(setting), store), False)

    def test_turned_about(self):
        for setting in drawn_settings(self.chance, 40):
            log = drawn_log(self.chance, setting, 9) + list(setting.deeds())[:1]
            turned = opposite_setting(setting)
            self.same(kind_of(turned, log[::-1]), kind_of(setting, log))
            self.same(many_by_kind(turned, log[::-1]), many_by_kind(setting, log))
            self.same(most_stretches(turned, log[::-1]), most_stretches(setting, log))
            self.same(least_height(turned, log[::-1]), least_height(setting, log))
            self.same(sorted(one[::-1] for one in doublings(setting, log)), doublings(turned, log[::-1]))
            self.same(is_endless(turned), is_endless(setting))
            self.same(opposite(turned.kinds()) == setting.kinds(), True)

    def test_trees_and_rows(self):
        for setting in drawn_settings(self.chance, 25):
            log = drawn_log(self.chance, setting, 14) + list(setting.deeds())[-1:]
            tree = least_tree(setting, log)
            self.same(log_of(setting, tree), log)
            self.same(kind_by(setting, tree), kind_of(setting, log))
            self.assertLessEqual(height_of(setting, tree), bound_of(setting.kinds()))
            self.assertLessEqual(height_of(setting, tree), height_of(setting, low_tree(setting, log)))
            self.assertLessEqual(most_looks(setting, tree), max(1, 2 * height_of(setting, tree) - 1))
            self.same(heights(setting, log)[(0, len(log))], height_of(setting, tree))
            row = longest_row(setting, log)
            if row is not None and len(row[1]) > 2:
                self.same(kind_of(setting, shortened(setting, log, row, 0, 1)), kind_of(setting, log))

    def test_marks_and_the_ends_that_may_be_done_again(self):
        for setting in drawn_settings(self.chance, 40):
            log = drawn_log(self.chance, setting, 9)
            end = len(log)
            for point in range(end):
                # From a mark there the whole rest is reached.
                self.same(reach(setting, log, point) is None,
                          all(may_redo(setting, log, point, last) for last in range(point + 1, end + 1)))
                self.same(point in redo_points(setting, log), may_redo(setting, log, point, end))
            self.same(bounds(setting, log)[end + 1], fewest_marks(setting, log))
            marks = any_marks(setting, log)
            self.same(is_covered(setting, log, marks), True)
            self.same(open_points(setting, log, marks), [])

    def test_texts_read_back_tell_the_same(self):
        for setting in drawn_settings(self.chance, 30):
            again = read_setting(setting_text(setting))
            self.assertTrue(again == setting)
            self.assertTrue(read_kinds(kinds_text(setting.kinds())) == setting.kinds())
            logs = [drawn_log(self.chance, setting, 8) for _ in range(3)]
            for log, other in zip(logs, read_logs(logs_text(logs))):
                for function in (doublings, fewest_marks, bounds, many_by_kind, redo_points, squeezing):
                    self.same(function(again, other), function(setting, log))

    def test_powers(self):
        for setting in drawn_settings(self.chance, 30):
            kinds = setting.kinds()
            for kind in kinds.words():
                lead, cycle = coming_back(kinds, kind)
                self.same(power(kinds, kind, lead + 10 ** 29 * cycle), power(kinds, kind, lead))
                self.same(put_all(kinds, [kind] * lead), power(kinds, kind, lead))

    def test_desks_and_days(self):
        for setting in drawn_settings(self.chance, 40):
            deeds = list(setting.deeds())
            desk = Desk(setting)
            for _ in range(20):
                # A mark as soon as the next deed would need one.
                log, deed = desk.meant(), self.chance.choice(deeds)
                if desk.at() == len(log) and desk.next_mark([deed]) is not None:
                    play(desk, [("mark",)])
                play(desk, [self.chance.choice([("do", deed), ("do", deed), ("fall",), ("go_on",)])])
            log, marks, falls = desk.meant(), desk.marks(), desk.falls()
            desk.go_on()
            self.same(desk.done(), done_log(log, marks, falls))
            self.same(desk.is_safe(), is_covered(setting, log, marks))
            self.same(replayed(Desk(setting), desk.record()), desk)
            self.same(desk.attempt(lambda passed: passed.fall()), max(mark for mark in marks if mark <= desk.at()))
            if desk.is_safe():
                chain = desk.chain()
                for store in typed_stores(self.chance, setting):
                    self.same(same_in(store, desk.done(), desk.meant()), True)
                self.same(is_chain_back(setting, log, marks, falls, chain), True)


class SmallOnes(Case):
    """What is said of small settings, through all modules."""

    def test_whatever_falls_the_log_is_alike(self):
        chance = random.Random(1)
        for setting in SOME:
            store = own_store(setting)
            for _ in range(3):
                log = drawn_log(chance, setting, 5)
                marks = any_marks(setting, log)
                self.same(harmful_falls(setting, log, marks), [])
                self.same(is_harmless(setting, log, marks), True)
                for falls in all_days(log, marks, 2)[::5]:
                    done = done_log(log, marks, falls)
                    self.same(same_in(store, done, log), True)
                    self.same(telling(setting, done, log), None)
                    if log:
                        self.same(least(setting, done), least(setting, log))

    def test_names_mean_nothing(self):
        sent = {"a": "q", "b": "r", "p": "n", "q": "o", "z": "p"}
        for setting in SOME[:3] + [SETTING]:
            named = {deed: sent[deed] for deed in setting.deeds()}
            other = renamed(setting, named)
            self.same(least_logs(other), [[named[deed] for deed in log] for log in least_logs(setting)])
            for log in least_logs(setting)[::40]:
                moved = [named[deed] for deed in log]
                self.same(coming_logs(other, moved), coming_logs(setting, log))
                self.same(len(alike_logs(other, moved, 5)), len(alike_logs(setting, log, 5)))

    def test_turned_about(self):
        for setting in SOME:
            turned = opposite_setting(setting)
            self.same(len(least_logs(turned)), len(least_logs(setting)))
            for log in (long_log(setting, 3), long_log(setting, 6)):
                wanted = sorted(one[::-1] for one in alike_logs(setting, log, 6))
                self.same(sorted(alike_logs(turned, log[::-1], 6)), wanted)


class Again(Case):
    """Everything asked twice, in another order, of equal settings, what was told in between changed."""

    def asked(self, order):
        told = {}
        for module, name, function, made in order:
            args = made()
            result = function(*args.values())
            told[(module, name)] = strict(result)
            wreck(result)
            wreck(list(args.values()))
        return told

    def test_in_other_orders(self):
        order = list(all_functions())
        first = self.asked(order)
        self.assertEqual(len(first), sum(map(len, FUNCTIONS.values())))
        self.assertEqual(self.asked(order[::-1]), first)
        random.Random(3).shuffle(order)
        self.assertEqual(self.asked(order), first)

    def test_of_the_same_objects(self):
        # The same settings, logs and stores are passed again and again, in two orders.
        passed = [(name, function, made()) for _, name, function, made in all_functions()]
        first = [strict(function(*args.values())) for _, function, args in passed]
        for _, function, args in passed[::-1]:
            wreck(function(**args))
        self.assertEqual([strict(function(**args)) for _, function, args in passed], first)

    def test_drawn_settings(self):
        functions = [fewest_marks, any_marks, bounds, doublings, halvings, many_by_kind, squeezing, redo_points]
        chance = random.Random(4)
        settings = drawn_settings(chance, 20)
        logs = [drawn_log(chance, setting, 10) for setting in settings]
        first = [strict(function(setting, log)) for setting, log in zip(settings, logs) for function in functions]
        second = []
        for setting, log in reversed(list(zip(settings, logs))):
            again = Setting(Kinds(setting.kinds().table()), setting.deeds(), setting.twice())
            for function in functions[::-1]:
                result = function(again, list(log))
                second.append(strict(result))
                wreck(result)
        self.assertEqual(second[::-1], first)

    def test_scripts_of_equal_settings(self):
        script = read_script("do b\nfall\ngo_on\ntry\n  do a\n  mark\nend\ndo a\nmark\nundo")
        first = end_of(SETTING, script)
        wreck(script_text(script))
        desk = Desk(Setting(Kinds(SETTING.kinds().table()), SETTING.deeds(), ["even"]))
        wreck(play(desk, script))
        self.same((desk.meant(), desk.marks(), desk.falls()), first)
        self.same(end_of(SETTING, script), first)


class Errors(Case):
    """[5]: each class is raised where its row says."""

    def test_each_class(self):
        deed = ["b"]
        switch = Store({"on": {"x": "on"}})
        dense = with_twice(SETTING, [])
        desk = desk_with("b")
        for name, value, function, args in (
                ("InvalidTable", {}, Kinds, [None]), ("InvalidKind", "none", SETTING.kinds().put, ["even", None]),
                ("InvalidKinds", None, put_all, [SETTING.kinds(), None]), ("InvalidDeeds", {}, Setting,
                                                                          [SETTING.kinds(), None, []]),
                ("InvalidDeed", "z", desk.do, [None]),
                ("InvalidTwice", ["odd"], with_twice, [SETTING, None]), ("InvalidSetting", 1, Desk, [None]),
                ("InvalidLog", ("a",), least, [SETTING, None]), ("InvalidLogs", deed, logs_text, [None]),
                ("InvalidPlace", 9, reach, [SETTING, deed, None]), ("InvalidCount", 9, marks_at, [SETTING, deed, None]),
                ("InvalidRow", (), shortened, [SETTING, deed, None, 0, 1]),
                ("InvalidTree", [], log_of, [SETTING, None]),
                ("InvalidMap", {}, renamed, [SETTING, None]), ("InvalidMoves", {}, Store, [None]),
                ("InvalidStore", {}, is_typed, [SETTING, None]),
                ("InvalidState", "z", behind, [switch, None, []]),
                ("InvalidMarks", [1], is_covered, [SETTING, deed, None]),
                ("InvalidFalls", [9], done_log, [deed, [0], None]), ("InvalidDesk", {}, play, [None, []]),
                ("InvalidScript", {}, script_text, [None]), ("InvalidText", "?", read_logs, [None]),
                ("InvalidRecord", {}, replayed, [desk, None]), ("Unlike", switch, is_typed, [SETTING, None]),
                ("Endless", dense, own_names, [None]), ("Refused", [0], chain_back, [SETTING, ["a"], None, []])):
            made = getattr(errors, name)
            with self.assertRaises(errors.TwiceError) as caught:
                function(*[value if one is None else one for one in args])
            self.assertIs(caught.exception.__class__, made)
            self.assertIs(caught.exception.value, value)
        for name, method in (("NothingToUndo", Desk(SETTING).undo), ("NothingToRedo", Desk(SETTING).redo)):
            with self.assertRaises(errors.TwiceError) as caught:
                method()
            self.assertIs(caught.exception.__class__, getattr(errors, name))

    def test_no_desk_is_a_setting_and_no_setting_a_desk(self):
        for value in odd_objects():
            if not isinstance(value, Desk):
                self.raises(errors.InvalidDesk, value, play, value, [])
            if not isinstance(value, Setting):
                self.raises(errors.InvalidSetting, value, Desk, value)
        self.raises(errors.InvalidDesk, SETTING, replayed, SETTING, [])
        self.same(read_setting(setting_text(free("ab"))) == free("ab"), True)


if __name__ == "__main__":
    unittest.main()
