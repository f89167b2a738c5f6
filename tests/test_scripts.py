"""[74] to [76]: scripts, what their commands come to, and their texts."""

import random
import unittest

from kindtwice.desk import Desk
from kindtwice.errors import InvalidDesk, InvalidScript, InvalidSetting, InvalidText
from kindtwice.kinds import Kinds
from kindtwice.scripts import end_of, needless, play, read_script, script_text
from kindtwice.settings import with_twice
from tests.days import PlainDesk
from tests.helping import ONE, SETTING, Case, free, no_settings, odd_objects, strict
from tests.test_desk import NO_DESKS, DeskCase, desk_with, stands
from tests.test_marks import SETTINGS

NO_SCRIPTS = [one for one in odd_objects() if one != []] + [
    ("mark",), (("mark",),), [["mark"]], ["mark"], [("Mark",)], [("mark", "b")], [("mark", None)], [("do",)],
    [("do", "b", "b")], [("do", "B")], [("do", "")], [("do", None)], [("do", ["b"])], [("do", "abcdefghi")],
    [("do", True)], [("do", Kinds(ONE))], [("undo", 1)], [("redo", [])], [("fall", 0)], [("go_on", "")], [("go on",)],
    [("try",)], [("try", ("mark",))], [("try", [("mark",)], [])], [("try", (("mark",),))], [("try", [["mark"]])],
    [("try", [("try", [("mark", 1)])])], [("try", None)], [("try", "b")], [("try", {})], [("try", [None])], [("end",)],
    [()], [("mark",), None], [("mark",), ()], [(None,)], [(True,)], [(["mark"],)], [({},)], [(("mark",),)], {0: 1},
    [(Kinds(ONE),)], [(SETTING, [])], {("mark",): 1}, "mark", "", [("try", [("do", "B")])], [("trial", [])],
    [("mark",), ("fall",), ("x",)],
]
ALL = [("do", "b"), ("mark",), ("fall",), ("go_on",), ("undo",), ("redo",), ("try", [])]


def deep(depth):
    """A try in a try .., so deep."""
    script = [("do", "b")]
    for at in range(depth):
        script = [("try", script)] if at % 2 else [("mark",), ("try", script), ("undo",)]
    return script


def plain_text(script):
    """The text of a script by the words."""
    lines = []
    for command in script:
        if command[0] == "try":
            inner = plain_text(command[1])
            lines += ["try"] + ["  " + line for line in inner.split("\n") if inner] + ["end"]
        else:
            lines.append(" ".join(command))
    return "\n".join(lines)


def drawn_scripts(many, length, tries=2):
    chance = random.Random(6)
    drawn = DeskCase().drawn
    return [(setting, drawn(chance, setting, chance.randrange(0, length + 1), tries))
            for setting in ([SETTING] * 3 + SETTINGS) * 9][:many]


class Play(Case):
    """[74]: play."""

    def test_every_command_and_its_answer(self):
        desk = Desk(SETTING)
        day = [("undo",), ("redo",), ("mark",), ("do", "c"), ("do", "b"), ("mark",), ("mark",), ("do", "a"), ("fall",),
               ("do", "b"), ("mark",), ("go_on",), ("go_on",), ("undo",), ("undo",), ("redo",)]
        wanted = [("refused", "NothingToUndo"), ("refused", "NothingToRedo"), ("refused", "Refused"),
                  ("refused", "InvalidDeed"), ("told", None), ("told", None), ("refused", "Refused"), ("told", None),
                  ("told", 1), ("refused", "InvalidDeed"), ("refused", "Refused"), ("told", 1), ("told", 0),
                  ("told", None), ("told", None), ("told", None)]
        self.same(play(desk, day), wanted)
        self.same(stands(desk), (["b", "a"], [0, 1], [2], ["b", "a", "a"], 2))

    def test_by_a_plain_desk(self):
        for setting, script in drawn_scripts(200, 25):
            desk, plain = Desk(setting), PlainDesk(setting)
            picture = strict(script)
            self.same(play(desk, script), plain.played(script))
            self.same(stands(desk), plain.stands())
            self.same(desk.record(), plain.made)
            self.assertEqual(strict(script), picture)
            further = [("redo",), ("undo",), ("go_on",)]
            self.same(play(script=further, desk=desk), plain.played(further))
            self.same(stands(desk), plain.stands())

    def test_tries_change_nothing(self):
        for setting, script in drawn_scripts(40, 12):
            desk = desk_with(*list(setting.deeds())[:2], "f", "g", "u", setting=setting)
            picture = strict(desk)
            told = play(desk, [("try", script), ("try", [("try", script), ("undo",), ("try", script)])])
            self.assertEqual(strict(desk), picture)
            self.same(told[0], ("tried", play(desk.copy(), script)))
            self.assertEqual(told[1][0], "tried")
            self.same(told[1][1][0], told[0])

    def test_tries_in_tries(self):
        script = [("do", "b"), ("try", [("do", "a"), ("try", [("undo",), ("undo",), ("undo",)]), ("undo",)]), ("undo",)]
        wanted = [("told", None), ("tried", [("told", None), ("tried", [("told", None), ("told", None),
                                                                       ("refused", "NothingToUndo")]),
                                             ("told", None)]), ("told", None)]
        self.same(play(Desk(SETTING), script), wanted)
        self.same(play(Desk(SETTING), [("try", [])]), [("tried", [])])
        self.same(play(Desk(SETTING), []), [])
        told = play(Desk(SETTING), deep(4))
        self.same(told, [("tried", [("refused", "Refused"), ("tried", [("tried", [
            ("refused", "Refused"), ("tried", [("told", None)]), ("refused", "NothingToUndo")])]),
            ("refused", "NothingToUndo")])])

    def test_what_is_returned_may_be_changed(self):
        desk = Desk(SETTING)
        script = [("try", [("do", "b")])]
        told = play(desk, script)
        told[0][1].append("x")
        self.same(play(desk, script), [("tried", [("told", None)])])
        script[0][1].append(("mark",))
        self.same(script, [("try", [("do", "b"), ("mark",)])])

    def test_wrong_ones(self):
        wrong = {"desk": (InvalidDesk, NO_DESKS), "script": (InvalidScript, NO_SCRIPTS[::5])}
        self.wrong_one_by_one(play, {"desk": desk_with("b", "u"), "script": [("mark",)]}, wrong)
        for value in NO_SCRIPTS:
            self.raises(InvalidScript, value, play, desk_with("b", "u"), value)
            right = [("do", "b"), ("try", value)]
            if value != [] and not isinstance(value, list):
                self.raises(InvalidScript, right, play, Desk(SETTING), right)


class Texts(Case):
    """[75]: script_text, read_script."""

    def test_each_text_is_read_back(self):
        for _, script in drawn_scripts(150, 12, 4):
            text = self.told(script_text, script)
            self.assertEqual(text, plain_text(script))
            self.tells(script, read_script, text)
            self.tells(script, read_script, text=text)
            self.tells(text, script_text, script=script)

    def test_by_hand(self):
        self.tells("", script_text, [])
        self.tells([], read_script, "")
        self.tells("try\nend", script_text, [("try", [])])
        self.tells("do b\nmark\nfall\ngo_on\nundo\nredo\ntry\nend", script_text, ALL)
        self.tells("try\n  do a\n  try\n    mark\n  end\n  fall\nend\nundo", script_text,
                   [("try", [("do", "a"), ("try", [("mark",)]), ("fall",)]), ("undo",)])
        for word in ("mark", "do", "try", "end", "undo", "abcdefgh"):
            self.tells("do " + word, script_text, [("do", word)])
            self.tells([("do", word)], read_script, "do " + word)
        for depth in range(9):
            self.tells(deep(depth), read_script, plain_text(deep(depth)))

    def test_texts_wrong_in_one_place(self):
        texts = [plain_text(ALL), plain_text(deep(4)), plain_text([("try", ALL), ("try", [("try", [])])]), "mark", ""]
        for text in texts:
            for at in range(len(text) + 1):
                for sign in (" ", "\n", "x", "X", "  ", "\t", "\n\n", "end\n", "\nend", "try\n", "1"):
                    for changed in (text[:at] + sign + text[at:], text[:at] + sign + text[at + 1:]):
                        self.read_or_refused(changed)
                self.read_or_refused(text[:at] + text[at + 1:])
                self.read_or_refused(text[:at])
                self.read_or_refused(text[at:])

    def read_or_refused(self, text):
        """A text is read just if the text of what is read is it."""
        try:
            script = read_script(text)
        except InvalidText as error:
            self.assertIs(error.value, text)
            self.assertNotIn(text, ("", "mark"))
        else:
            self.assertEqual(script_text(script), text)
            self.assertEqual(plain_text(script), text)

    def test_wrong_texts(self):
        texts = ["\n", " ", "\nmark", "mark\n", " mark", "mark ", "do", "do ", "do  b", "do b ", "do B", "do b c",
                 "Mark", "end", "try", "try\n", "try\nmark\nend", "try\n mark\nend", "try\n   mark\nend",
                 "try\n  mark", "try\n  mark\n  end", "try\nend\nend", "try \nend", "try\nend ", "end\ntry",
                 "try\n\nend", "mark\n\nfall", "mark\tfall", "do\tb", "go on", "  try\n  end", "try\n  try\n  end",
                 "try\n  try\n  mark\n  end\nend", "do abcdefghi", "do 1", "try a\nend", "mark a", "undo 1"]
        for value in texts + [one for one in odd_objects() if one != ""] + [[("mark",)], ["mark"], ("mark",)]:
            self.raises(InvalidText, value, read_script, value)
            self.raises(InvalidText, value, read_script, text=value)

    def test_all_short_texts(self):
        right = {plain_text(script) for script in [[], [("try", [])]] + [[command] for command in ALL]}
        for text in ("", "mark", "fall", "go_on", "undo", "redo", "do b", "try\nend"):
            self.assertIn(text, right)
            self.assertEqual(script_text(read_script(text)), text)

    def test_wrong_scripts(self):
        for value in NO_SCRIPTS:
            self.raises(InvalidScript, value, script_text, value)
            self.raises(InvalidScript, value, script_text, script=value)

    def test_a_text_of_two_hundred_and_fifty_lines(self):
        script = ALL * 31 + [("mark",)]
        text = script_text(script)
        self.assertEqual(len(text.split("\n")), 31 * 8 + 1)
        self.tells(script, read_script, text)
        self.tells(deep(40), read_script, script_text(deep(40)))


class Ends(Case):
    """[76]: end_of, needless."""

    def test_against_leaving_out_each_by_hand(self):
        for setting, script in drawn_scripts(160, 12):
            def end(one):
                plain = PlainDesk(setting)
                plain.played(one)
                return plain.stands()[:3]
            self.tells(end(script), end_of, setting, script)
            wanted = [at for at in range(len(script)) if end(script[:at] + script[at + 1:]) == end(script)]
            self.tells(wanted, needless, setting, script)

    def test_by_hand(self):
        day = [("do", "b"), ("do", "b"), ("fall",), ("go_on",), ("try", [("do", "a")]), ("do", "a"), ("mark",),
               ("do", "c")]
        self.tells((["b", "b", "a"], [0, 3], [2]), end_of, SETTING, day)
        self.tells([4, 7], needless, SETTING, day)
        self.tells(([], [0], []), end_of, script=[], setting=SETTING)
        self.tells([], needless, script=[], setting=SETTING)
        # Either go_on does what is left, but not both are needless together.
        self.tells([2, 3], needless, SETTING, [("do", "b"), ("fall",), ("go_on",), ("go_on",)])

    def test_undo_and_redo(self):
        # Without the do the undo is refused, and that is the same end.
        self.tells([0], needless, SETTING, [("do", "b"), ("undo",)])
        self.tells([0, 1, 2], needless, SETTING, [("undo",), ("redo",), ("mark",)])
        self.tells([0], needless, SETTING, [("do", "a"), ("undo",), ("do", "b")])
        self.tells([], needless, SETTING, [("do", "a")])

    def test_wrong_ones(self):
        wrong = {"setting": (InvalidSetting, no_settings()[::3]), "script": (InvalidScript, NO_SCRIPTS[::5])}
        for function in (end_of, needless):
            for setting in (SETTING, with_twice(SETTING, []), free("ab")):
                self.wrong_one_by_one(function, {"setting": setting, "script": [("mark",)]}, wrong)
            for value in NO_SCRIPTS:
                self.raises(InvalidScript, value, function, SETTING, value)


if __name__ == "__main__":
    unittest.main()
