"""[68] to [73]: a desk, what is done on it, what is taken back, blocks, copies and records."""

import random
import unittest

from kindtwice.desk import Desk, replayed
from kindtwice.doublings import is_doubling
from kindtwice.errors import (InvalidDeed, InvalidDesk, InvalidLog, InvalidRecord, InvalidSetting, NothingToRedo,
                              NothingToUndo, Refused)
from kindtwice.falls import begins, chain_back, done_log, is_chain_back, is_day
from kindtwice.kinds import Kinds
from kindtwice.marks import are_marks, is_covered, open_points, reach
from kindtwice.settings import with_twice
from tests.days import PlainDesk, open_in
from tests.helping import ONE, SETTING, Case, free, no_logs, no_settings, odd_objects, strict, wreck
from tests.test_marks import CHOICES, SETTINGS

NO_DESKS = [one for one in odd_objects() if not isinstance(one, Desk)] + [SETTING, [["a"], [0], []], (["a"], [0], [])]
COMMANDS = [("mark",), ("fall",), ("go_on",)]


def desk_with(*commands, setting=SETTING):
    """A desk on which words are done: m, f, g are a mark, a fall, go_on, u and r undo and redo, others deeds."""
    desk = Desk(setting)
    for word in commands:
        methods = {"m": desk.mark, "f": desk.fall, "g": desk.go_on, "u": desk.undo, "r": desk.redo}
        if word in methods:
            methods[word]()
        else:
            desk.do(word)
    return desk


def stands(desk):
    return desk.meant(), desk.marks(), desk.falls(), desk.done(), desk.at()


class DeskCase(Case):
    def raised(self, error, value, function, *args):
        """A method raises just this, and the desk is as it was."""
        before = strict(function.__self__)
        with self.assertRaises(error) as caught:
            function(*args)
        self.assertIs(caught.exception.__class__, error)
        if value is not None:
            self.same(caught.exception.value, value)
        self.assertEqual(strict(function.__self__), before)

    def drawn(self, chance, setting, many, tries=0):
        """A script of drawn commands."""
        deeds = list(setting.deeds()) + ["c"]
        script = []
        for _ in range(many):
            word = chance.choice(["do"] * 6 + ["mark", "mark", "fall", "go_on", "go_on", "undo", "undo", "redo"])
            if tries and chance.random() < 0.15:
                script.append(("try", self.drawn(chance, setting, chance.randrange(0, 5), tries - 1)))
            else:
                script.append(("do", chance.choice(deeds)) if word == "do" else (word,))
        return script


class New(DeskCase):
    """[68]: Desk."""

    def test_at_first(self):
        for setting in SETTINGS:
            desk = Desk(setting)
            self.same(stands(desk), ([], [0], [], [], 0))
            self.same([desk.is_safe(), desk.why_not(), desk.chain(), desk.record()], [True, [], [[]], []])
            self.raised(NothingToUndo, None, desk.undo)
            self.raised(NothingToRedo, None, desk.redo)
        self.same(stands(Desk(setting=SETTING)), ([], [0], [], [], 0))

    def test_it_is_equal_to_itself(self):
        desk = desk_with("a", "f")
        self.assertTrue(desk == desk)

    def test_what_is_told_may_be_changed(self):
        desk = desk_with("b", "b", "m", "a", "f", "g")
        picture = strict(desk)
        for method in (desk.meant, desk.done, desk.marks, desk.falls, desk.why_not, desk.record):
            wreck(method())
        self.assertEqual(strict(desk), picture)
        desk = desk_with("b", "b", "f", "g")
        wreck(desk.chain())
        self.same(desk.chain(), [["b", "b", "b", "b"], ["b", "b"]])

    def test_wrong_ones(self):
        self.wrong_one_by_one(Desk, {"setting": SETTING}, {"setting": (InvalidSetting, no_settings())})


class Done(DeskCase):
    """[69]: do, mark, fall, go_on."""

    def test_the_next_deed_another_one_and_no_deed(self):
        desk = desk_with("b", "a", "f")
        for value in odd_objects() + no_logs() + ["c", "a", ["b"], ("b",), "B"]:
            if value != "b":
                with self.assertRaises(InvalidDeed) as caught:
                    desk.do(value)
                self.assertIs(caught.exception.value, value)
        self.same(stands(desk), (["b", "a"], [0], [2], ["b", "a"], 0))
        self.same([desk.do("b"), desk.at(), desk.do(deed="a"), desk.at()], [None, 1, None, 2])
        self.same(stands(desk), (["b", "a"], [0], [2], ["b", "a", "b", "a"], 2))
        for value in odd_objects() + ["c", ["b"], ("b",), "B"]:
            if value not in ("a", "b"):
                with self.assertRaises(InvalidDeed) as caught:
                    desk.do(value)
                self.assertIs(caught.exception.value, value)
        self.same([desk.do("a"), desk.do("b")], [None, None])
        self.same(desk.meant(), ["b", "a", "a", "b"])

    def test_marks(self):
        desk = Desk(SETTING)
        self.raised(Refused, "mark", desk.mark)
        desk.do("b")
        self.same([desk.mark(), desk.marks()], [None, [0, 1]])
        self.raised(Refused, "mark", desk.mark)
        desk.do("b")
        self.same([desk.fall(), desk.at()], [1, 1])
        # A fall's point is there.
        desk.do("b")
        self.raised(Refused, "mark", desk.mark)
        desk.do("a")
        desk.fall()
        # In the middle of the log.
        self.raised(Refused, "mark", desk.mark)
        desk.do("b")
        self.raised(Refused, "mark", desk.mark)
        desk.do("a")
        self.raised(Refused, "mark", desk.mark)
        desk.do("b")
        self.same([desk.mark(), desk.marks()], [None, [0, 1, 4]])
        self.same(stands(desk), (["b", "b", "a", "b"], [0, 1, 4], [2, 3], ["b", "b", "b", "a", "b", "a", "b"], 4))

    def test_a_fall_at_a_mark(self):
        desk = desk_with("b", "m")
        self.same([desk.fall(), desk.falls(), desk.at()], [1, [1], 1])
        self.same([Desk(SETTING).fall()], [0])
        desk = desk_with("f")
        self.same(stands(desk), ([], [0], [0], [], 0))
        self.raised(Refused, "mark", desk.mark)

    def test_go_on(self):
        desk = desk_with("b", "a", "f")
        self.same([desk.go_on(), desk.go_on(), desk.at()], [2, 0, 2])
        desk.fall()
        desk.do("b")
        self.same([desk.go_on(), desk.done()], [1, ["b", "a"] * 3])
        self.same(desk.record(), [("do", "b"), ("do", "a"), ("fall",), ("go_on",), ("go_on",), ("fall",), ("do", "b"),
                                  ("go_on",)])

    def test_by_a_plain_desk_step_by_step(self):
        chance = random.Random(2)
        for setting in [SETTING] * 6 + SETTINGS + [CHOICES]:
            desk, plain = Desk(setting), PlainDesk(setting)
            for command in self.drawn(chance, setting, 60):
                word, *deed = command
                outcome = plain.told(command)
                if outcome[0] == "told":
                    self.same(getattr(desk, word)(*deed), outcome[1])
                else:
                    error = {"InvalidDeed": InvalidDeed, "Refused": Refused, "NothingToUndo": NothingToUndo,
                             "NothingToRedo": NothingToRedo}[outcome[1]]
                    self.raised(error, {"do": deed[0] if deed else None, "mark": "mark"}.get(word),
                                getattr(desk, word), *deed)
                self.same(stands(desk), plain.stands())
                self.same(desk.record(), plain.made)
                log, marks, falls, done, at = plain.stands()
                self.assertTrue(are_marks(log, marks) and is_day(log, marks, falls))
                self.same(done + log[at:], done_log(log, marks, falls))
                if falls:
                    self.assertGreaterEqual(at, begins(log, marks, falls)[-1])


class Looked(DeskCase):
    """[70]: is_safe, why_not, next_mark, chain."""

    def test_by_the_words(self):
        chance = random.Random(4)
        for setting in [SETTING] * 5 + SETTINGS:
            desk = Desk(setting)
            for command in self.drawn(chance, setting, 25):
                try:
                    getattr(desk, command[0])(*command[1:])
                except (InvalidDeed, Refused, NothingToUndo, NothingToRedo):
                    continue
                log, marks, falls, done, at = stands(desk)
                self.same(desk.why_not(), open_in(setting, log, marks))
                self.same(desk.is_safe(), desk.why_not() == [])
                for further in ([], log[:2], list(setting.deeds())):
                    self.same(desk.next_mark(further), reach(setting, log + further, marks[-1]))
                    self.same(desk.next_mark(log=further), desk.next_mark(further))
                if desk.is_safe() and at == len(log):
                    chain = desk.chain()
                    self.same(is_chain_back(setting, log, marks, falls, chain), True)
                    self.same([chain[0], chain[-1]], [done, log])
                    for ahead, other in zip(chain, chain[1:]):
                        self.assertTrue(is_doubling(setting, other, ahead))
                else:
                    self.raised(Refused, "chain", desk.chain)

    def test_chain_is_refused(self):
        desk = desk_with("b", "b", "f")
        self.same(desk.is_safe(), True)
        self.raised(Refused, "chain", desk.chain)
        desk.go_on()
        self.same(desk.chain(), chain_back(SETTING, ["b", "b"], [0], [2]))
        desk.do("a")
        self.same(desk.is_safe(), False)
        self.raised(Refused, "chain", desk.chain)
        desk.mark()
        self.same([desk.is_safe(), desk.chain()[-1]], [True, ["b", "b", "a"]])

    def test_next_mark(self):
        desk = desk_with("b", "a")
        # A point that the log has passed.
        self.same([desk.next_mark([]), desk.next_mark(["b"])], [2, 2])
        desk.do("b")
        self.same(desk.next_mark([]), 2)
        self.same([Desk(SETTING).next_mark(["b", "b", "a"]), Desk(SETTING).next_mark(["b"])], [3, None])
        desk.mark()
        self.same([desk.next_mark([]), desk.next_mark(["b"]), desk.next_mark(["b", "a", "b"])], [None, None, 5])
        for value in no_logs():
            with self.assertRaises(InvalidLog) as caught:
                desk.next_mark(value)
            self.assertIs(caught.exception.value, value)

    def test_they_change_nothing(self):
        desk = desk_with("b", "a", "u")
        picture = strict(desk)
        log = ["a", "b"]
        self.same([desk.is_safe(), desk.why_not(), desk.next_mark(log), desk.chain()], [True, [], 2, [["b"]]])
        self.assertEqual((strict(desk), log), (picture, ["a", "b"]))

    def test_open_points_are_those_of_the_marks(self):
        desk = desk_with("a", "a", "m", "a", setting=with_twice(SETTING, []))
        self.same(desk.why_not(), open_points(with_twice(SETTING, []), ["a", "a", "a"], [0, 2]))
        self.same(desk.is_safe(), is_covered(with_twice(SETTING, []), ["a", "a", "a"], [0, 2]))


class TakenBack(DeskCase):
    """[71]: undo, redo."""

    def test_through_all_commands(self):
        words = ["b", "g", "m", "f", "a", "f", "g", "b", "m", "f"]
        desk = Desk(SETTING)
        passed = [strict(stands(desk))]
        for at in range(len(words)):
            passed.append(strict(stands(desk_with(*words[:at + 1]))))
        desk = desk_with(*words)
        record = desk.record()
        for at in reversed(range(len(words))):
            self.same(desk.undo(), None)
            self.assertEqual(strict(stands(desk)), passed[at])
            self.same(desk.record(), record[:at])
        self.raised(NothingToUndo, None, desk.undo)
        for at in range(len(words)):
            self.same(desk.redo(), None)
            self.assertEqual(strict(stands(desk)), passed[at + 1])
            self.same(desk.record(), record[:at + 1])
        self.raised(NothingToRedo, None, desk.redo)

    def test_commands_that_change_little(self):
        for word in ("g", "f"):
            desk = desk_with("b", "m", word)
            desk.undo()
            self.same([desk.record(), desk.marks()], [[("do", "b"), ("mark",)], [0, 1]])
            desk.redo()
            self.same(len(desk.record()), 3)

    def test_a_new_command_ends_what_can_be_made_again(self):
        for word in ("b", "m", "f", "g"):
            desk = desk_with("b", "a", "u")
            methods = {"m": desk.mark, "f": desk.fall, "g": desk.go_on}
            methods[word]() if word in methods else desk.do(word)
            self.raised(NothingToRedo, None, desk.redo)
            desk.undo()
            desk.redo()
            self.raised(NothingToRedo, None, desk.redo)

    def test_what_raises_is_no_command(self):
        desk = desk_with("b", "m", "a", "u")
        self.raised(Refused, "mark", desk.mark)
        self.raised(InvalidDeed, "c", desk.do, "c")
        self.same(desk.redo(), None)
        self.same(desk.meant(), ["b", "a"])

    def test_errors_are_made_of_nothing(self):
        desk = Desk(SETTING)
        for method in (desk.undo, desk.redo):
            with self.assertRaises((NothingToUndo, NothingToRedo)) as caught:
                method()
            self.assertFalse(hasattr(caught.exception, "value"))

    def test_a_hundred_commands(self):
        desk = Desk(free("ab"))
        for at in range(30):
            desk.do("ab"[at % 2])
        for at in range(60):
            desk.fall() if at % 10 == 0 else desk.go_on()
        for _ in range(90):
            desk.undo()
        self.same(stands(desk), ([], [0], [], [], 0))
        for _ in range(90):
            desk.redo()
        self.same([len(desk.record()), len(desk.done()), desk.falls()], [90, 30 * 7, [30] * 6])


class Blocks(DeskCase):
    """[72]: trial, attempt, copy."""

    def test_left_as_it_was_entered(self):
        desk = desk_with("b", "a", "f", "g", "u")
        picture = strict(desk)
        with desk.trial() as same:
            self.assertIs(same, desk)
            desk.go_on()
            desk.do("b")
            desk.mark()
            self.same(desk.marks(), [0, 3])
            desk.undo()
        self.assertEqual(strict(desk), picture)
        desk.redo()
        self.same(desk.done(), ["b", "a", "b", "a"])

    def test_left_by_an_error(self):
        class Own(Exception):
            pass
        desk = desk_with("b")
        picture = strict(desk)
        for error in (Own("x"), ValueError(), InvalidDeed("a")):
            with self.assertRaises(error.__class__) as caught:
                with desk.trial():
                    desk.do("a")
                    raise error
            self.assertIs(caught.exception, error)
            self.assertEqual(strict(desk), picture)
        with self.assertRaises(Refused):
            with desk.trial():
                desk.mark()
                desk.mark()
        self.assertEqual(strict(desk), picture)

    def test_blocks_in_blocks(self):
        desk = Desk(SETTING)
        pictures = [strict(desk)]
        blocks = []
        for at in range(10):
            blocks.append(desk.trial())
            blocks[-1].__enter__()
            desk.do("ab"[at % 2])
            if at % 3 == 0:
                desk.mark()
            pictures.append(strict(desk))
        for block in blocks[::-1]:
            self.assertEqual(strict(desk), pictures.pop())
            self.assertFalse(block.__exit__(None, None, None))
        self.assertEqual(strict(desk), pictures.pop())

    def test_a_block_begins_when_it_is_entered(self):
        desk = desk_with("b")
        block = desk.trial()
        desk.do("a")
        with block:
            desk.do("b")
        self.same(desk.meant(), ["b", "a"])

    def test_undo_of_what_stood_ahead(self):
        desk = desk_with("b", "a", "m")
        picture = strict(desk)
        with desk.trial():
            for _ in range(3):
                desk.undo()
            self.same(stands(desk), ([], [0], [], [], 0))
            self.raised(NothingToUndo, None, desk.undo)
            desk.do("a")
        self.assertEqual(strict(desk), picture)
        with desk.trial():
            desk.undo()
            desk.undo()
            with desk.trial():
                desk.redo()
                desk.redo()
                self.same(desk.marks(), [0, 2])
            self.same(desk.meant(), ["b"])
            desk.redo()
        self.assertEqual(strict(desk), picture)
        self.raised(NothingToRedo, None, desk.redo)

    def test_attempt_returns_the_very_object(self):
        desk = desk_with("b", "a", "u")
        picture = strict(desk)
        for value in odd_objects():
            seen = []

            def action(passed):
                seen.append(passed)
                passed.fall()
                return value
            self.assertIs(desk.attempt(action), value)
            self.assertEqual(len(seen), 1)
            self.assertIs(seen[0], desk)
            self.assertEqual(strict(desk), picture)
        self.assertIs(desk.attempt(action=lambda passed: passed), desk)
        self.same(desk.attempt(lambda passed: passed.attempt(lambda other: [other.fall(), other.go_on()])), [0, 1])
        self.assertEqual(strict(desk), picture)
        with self.assertRaises(InvalidDeed):
            desk.attempt(lambda passed: [passed.fall(), passed.do("z")])
        self.assertEqual(strict(desk), picture)

    def test_attempt_returns_what_may_be_changed(self):
        desk = desk_with("b")
        told = desk.attempt(lambda passed: passed.meant())
        told.append("x")
        self.same(desk.meant(), ["b"])

    def test_copies_go_on_independently(self):
        desk = desk_with("b", "a", "u", "f")
        other = desk.copy()
        self.assertIsNot(other, desk)
        self.same(other, desk)
        other.go_on()
        other.mark() if other.at() not in other.falls() else other.do("b")
        desk.undo()
        self.same([desk.falls(), other.falls()], [[], [1]])
        desk.redo()
        self.same(stands(desk), (["b"], [0], [1], ["b"], 0))
        other = desk_with("b", "a", "u").copy()
        other.redo()
        self.same(other.meant(), ["b", "a"])

    def test_a_copy_is_in_no_block(self):
        desk = desk_with("b")
        with desk.trial():
            desk.do("a")
            other = desk.copy()
            with other.trial():
                other.do("a")
            desk.do("b")
        self.same([desk.meant(), other.meant()], [["b"], ["b", "a"]])
        other.undo()
        other.undo()
        self.same([desk.meant(), other.meant()], [["b"], []])


class Records(DeskCase):
    """[73]: record, replayed."""

    def test_replayed_on_a_new_desk(self):
        chance = random.Random(8)
        for setting in [SETTING] * 5 + SETTINGS:
            plain = PlainDesk(setting)
            plain.played(self.drawn(chance, setting, 30))
            desk = Desk(setting)
            told = self.told(replayed, desk, list(plain.made))
            self.same(told.record(), plain.made)
            self.same(stands(told), plain.stands())
            self.same(stands(desk), ([], [0], [], [], 0))
            self.same(replayed(record=told.record(), desk=desk), told)

    def test_on_top_of_what_was_done(self):
        desk = desk_with("b", "a", "u")
        other = replayed(desk, [("do", "b"), ("mark",), ("fall",), ("go_on",)])
        self.same(stands(other), (["b", "b"], [0, 2], [2], ["b", "b"], 2))
        self.same(other.record()[0], ("do", "b"))
        for _ in range(5):
            other.undo()
        self.raised(NothingToUndo, None, other.undo)
        # With no command at all, what can be made again stays.
        other = replayed(desk, [])
        other.redo()
        self.same([other.meant(), desk.meant()], [["b", "a"], ["b"]])

    def test_in_a_block(self):
        desk = desk_with("b")
        with desk.trial():
            desk.do("a")
            other = replayed(desk, [("do", "b")])
        self.same([desk.meant(), other.meant()], [["b"], ["b", "a", "b"]])

    def test_wrong_records(self):
        desk = desk_with("b")
        right = [("do", "b")]
        wrong = [one for one in odd_objects() if one != []] + [
            ("do", "b"), (("do", "b"),), [["do", "b"]], [("do",)], [("do", "b", "b")], [("mark", "b")],
            [("mark", None)], [("fall", 0)], [("go_on", 1)], [("undo",)], [("redo",)], [("try", [])], [()], ["mark"],
            [("Mark",)], [("mark", "b", "b")], [("fall", 0, 0)],
            [("mark",), None], right + [("undo",)], [("do", "b"), ["mark"]], [(None,)], [(True,)], [(["mark"],)],
            [({},)], [(("mark",),)], [(desk,)], [(Kinds(ONE), "b")], {("do", "b"): 1}, {0: ("mark",)}, "mark",
            [("do", "z"), ("mark", 1)], [("mark",), ("mark",), ("x",)]]
        for value in wrong:
            self.raises(InvalidRecord, value, replayed, desk, value)
        self.wrong_one_by_one(replayed, {"desk": desk, "record": right},
                              {"desk": (InvalidDesk, NO_DESKS), "record": (InvalidRecord, wrong[::4])})

    def test_a_later_command_raises(self):
        desk = desk_with("b", "a")
        picture = strict(desk)
        for record, error, value in (
                ([("do", "b"), ("do", "c")], InvalidDeed, "c"), ([("fall",), ("do", "a")], InvalidDeed, "a"),
                ([("fall",), ("mark",)], Refused, "mark"), ([("mark",), ("mark",)], Refused, "mark"),
                ([("do", "c"), ("mark",), ("mark",)], InvalidDeed, "c"),
                ([("fall",), ("go_on",), ("mark",)], Refused, "mark")):
            with self.assertRaises(error) as caught:
                replayed(desk, record)
            self.same(caught.exception.value, value)
            self.assertEqual(strict(desk), picture)
        # Whatever the deed: by its form it is a record.
        for deed in odd_objects():
            if deed not in ("a", "b"):
                self.raises(InvalidDeed, deed, replayed, desk, [("mark",), ("do", deed)])


if __name__ == "__main__":
    unittest.main()
