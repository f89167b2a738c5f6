"""[77], [78]: texts of Kinds, settings and logs, and their readers."""

import random
import unittest

from kindtwice.errors import InvalidKinds, InvalidLogs, InvalidSetting, InvalidText
from kindtwice.kinds import Kinds, own_squares
from kindtwice.papers import kinds_text, logs_text, read_kinds, read_logs, read_setting, setting_text
from kindtwice.settings import Setting, with_twice
from tests.helping import (CHAIN, CORNERS, LONG, MANY_TABLES, ONE, PARITY, SETTING, Case, free, no_kinds, no_settings,
                           odd_objects, some_setting, subsets, turned)

NO_LOGS_LISTS = [one for one in odd_objects() if one not in ([], [[], []], [["even"]])] + [
    (["a"],), ("a",), [("a",)], ["a"], [["a"], ("b",)], [["A"]], [[""]], [["a", ""]], [["a b"]], [[None]], [[["a"]]],
    [["abcdefghi"]], [{"a": 1}], [["a"], None], [["a"], "b"], [[True]], [[Kinds(ONE)]], [SETTING], {"a": ["b"]}, "-",
    [["-"]], [["a", "-"]], [[("a",)]], [[{}]], ["-"], [[1]]]
PARITY_TEXT = "even even = even\neven odd = odd\nodd even = odd\nodd odd = even"
TEXT = PARITY_TEXT + "\ndeeds\na odd\nb even\ntwice even"


def settings_of(table):
    return [with_twice(some_setting(table), twice) for twice in subsets(own_squares(Kinds(table)))]


def plain_kinds_text(table):
    return "\n".join("{} {} = {}".format(*pair, table[pair]) for pair in sorted(table))


def bent(text):
    """Texts with one sign more, one less, another one, and with lines out of order, doubled or left out."""
    lines = text.split("\n")
    found = [text[:at] + sign + text[at:] for at in range(len(text) + 1) for sign in " \nax=-"]
    found += [text[:at] + text[at + 1:] for at in range(len(text))]
    found += [text[:at] + sign + text[at + 1:] for at in range(len(text)) for sign in " \nbZ\t"]
    for at in range(len(lines)):
        found.append("\n".join(lines[:at] + lines[at + 1:]))
        found.append("\n".join(lines[:at] + lines[at:at + 1] + lines[at:]))
        found.append("\n".join(lines[:at] + lines[at:at + 2][::-1] + lines[at + 2:]))
    return [one for one in found if one != text] + [text + "\n", "\n" + text, text + " ", text.upper(), text[::-1]]


class PapersCase(Case):
    def read_or_refused(self, reader, writer, text):
        """A text is read just if the text of what is read is it."""
        try:
            read = reader(text)
        except InvalidText as error:
            self.assertIs(error.value, text)
            return False
        self.assertEqual(writer(read), text)
        return True


class KindsTexts(PapersCase):
    """[77]: kinds_text, read_kinds."""

    def test_each_is_read_back(self):
        for table in MANY_TABLES:
            text = plain_kinds_text(table)
            self.tells(text, kinds_text, Kinds(table))
            self.tells(text, kinds_text, kinds=Kinds(turned(table)))
            self.tells(Kinds(table), read_kinds, text)
            self.assertTrue(read_kinds(text=text) == Kinds(table))

    def test_by_hand(self):
        self.tells("k k = k", kinds_text, Kinds(ONE))
        self.tells(PARITY_TEXT, kinds_text, Kinds(PARITY))

    def test_bent_texts(self):
        for table in (ONE, PARITY, CHAIN):
            for text in bent(plain_kinds_text(table))[::1 if len(table) < 9 else 5]:
                self.read_or_refused(read_kinds, kinds_text, text)

    def test_wrong_texts(self):
        odd_even = "odd odd = even\nodd even = odd\neven odd = odd\neven even = even"
        free_of_none = "a a = b\na b = a\nb a = b\nb b = b"
        texts = ["", "\n", "k k = k\n", "\nk k = k", " k k = k", "k k = k ", "k  k = k", "k k=k", "k k == k", "k k = m",
                 "k k : k", "kk = k", "k k = k k", "k k k", "K K = K", "k k = k\nk k = k", "a b = a",
                 "a a = a\nb b = b",
                 "abcdefghi abcdefghi = abcdefghi", PARITY_TEXT + "\n", odd_even, free_of_none,
                 PARITY_TEXT.replace("odd odd = even", "odd odd = even "), PARITY_TEXT.replace("\n", " "), TEXT,
                 "k\tk = k", "k k =\nk", "1 1 = 1"]
        for value in texts + odd_objects() + [["k k = k"], ("k k = k",), {"k k": "k"}, Kinds(ONE)]:
            self.raises(InvalidText, value, read_kinds, value)
            self.raises(InvalidText, value, read_kinds, text=value)

    def test_wrong_ones(self):
        for value in no_kinds():
            self.raises(InvalidKinds, value, kinds_text, value)
            self.raises(InvalidKinds, value, kinds_text, kinds=value)


class SettingTexts(PapersCase):
    """[77]: setting_text, read_setting."""

    def test_each_is_read_back(self):
        for table in MANY_TABLES:
            for setting in settings_of(table):
                deeds = setting.deeds()
                lines = [plain_kinds_text(table), "deeds"] + [deed + " " + deeds[deed] for deed in sorted(deeds)]
                text = "\n".join(lines + ["twice" + "".join(" " + kind for kind in setting.twice())])
                self.tells(text, setting_text, setting)
                self.tells(setting, read_setting, text)
                self.assertTrue(read_setting(text=setting_text(setting=setting)) == setting)

    def test_by_hand(self):
        self.tells(TEXT, setting_text, SETTING)
        self.tells(PARITY_TEXT + "\ndeeds\na odd\nb even\ntwice", setting_text, with_twice(SETTING, []))
        self.tells("k k = k\ndeeds\np k\nq k\ntwice k", setting_text, free("qp"))
        self.tells(free("p", []), read_setting, "k k = k\ndeeds\np k\ntwice")

    def test_deeds_and_kinds_called_like_lines(self):
        table = {(one, other): "twice" if "twice" in (one, other) else "deeds" for one in ("deeds", "twice")
                 for other in ("deeds", "twice")}
        for twice in ([], ["deeds"], ["twice"], ["deeds", "twice"]):
            setting = Setting(Kinds(table), {"twice": "twice", "deeds": "deeds"}, twice)
            text = setting_text(setting)
            self.tells(setting, read_setting, text)
            self.assertEqual(text.split("\n")[4:7], ["deeds", "deeds deeds", "twice twice"])
        setting = Setting(Kinds(ONE), {"twice": "k"}, ["k"])
        self.tells("k k = k\ndeeds\ntwice k\ntwice k", setting_text, setting)
        self.tells(setting, read_setting, "k k = k\ndeeds\ntwice k\ntwice k")
        self.raises(InvalidText, "k k = k\ndeeds\ntwice k", read_setting, "k k = k\ndeeds\ntwice k")

    def test_bent_texts(self):
        for setting in (SETTING, free("pq"), free("pq", []), with_twice(some_setting(CHAIN), ["m"])):
            texts = bent(setting_text(setting))
            read = [text for text in texts[::1 if len(setting.deeds()) < 3 else 7]
                    if self.read_or_refused(read_setting, setting_text, text)]
            # Some are the texts of other settings, but most are none.
            self.assertLess(len(read), len(texts) // 5)

    def test_wrong_texts(self):
        one = "k k = k\ndeeds\n"
        texts = ["", "\n", "deeds", "deeds\ntwice", PARITY_TEXT, TEXT + "\n", "\n" + TEXT, TEXT + " ",
                 TEXT.replace("a odd\nb even", "b even\na odd"), TEXT.replace("deeds\n", ""),
                 TEXT.replace("\ntwice even", ""), TEXT.replace("twice even", "twice odd"),
                 TEXT.replace("twice even", "twice even even"), TEXT.replace("twice even", "twice  even"),
                 TEXT.replace("twice even", "twice "), TEXT.replace("twice even", "Twice even"),
                 TEXT.replace("b even\n", ""), TEXT.replace("b even", "b odd"), TEXT.replace("b even", "b even even"),
                 TEXT.replace("b even", "b"), TEXT.replace("b even", "B even"), TEXT.replace("b even", "a even"),
                 TEXT.replace("deeds", "deeds "), TEXT.replace("odd odd = even", "odd odd = none"),
                 TEXT.replace("odd odd = even\n", ""), TEXT.replace("even even = even", "even even = odd"),
                 "k k = k\ndeeds", "k k = k", one + "twice",
                 one + "p k\ntwice k k", one + "p k\np k\ntwice", one + "q k\np k\ntwice",
                 one + "p m\ntwice", one + "p k", one, one + "p k\n\ntwice", one + "p k\ntwice m",
                 "k k = k\np k\ntwice",
                 "k k = k\ndeeds\ndeeds\np k\ntwice", "deeds\np k\ntwice\nk k = k", one + "p k\ntwice\ntwice",
                 one + "p k\ntwice k\n", one + "p  k\ntwice k", one + "p\tk\ntwice k", one + "p k \ntwice k"]
        chain = setting_text(some_setting(CHAIN))
        texts.append(chain.replace("twice m mn zz", "twice mn m zz"))
        self.assertNotEqual(texts[-1], chain)
        for value in texts + odd_objects() + [[TEXT], (TEXT,), SETTING, {"text": TEXT}]:
            self.raises(InvalidText, value, read_setting, value)
            self.raises(InvalidText, value, read_setting, text=value)

    def test_wrong_ones(self):
        for value in no_settings():
            self.raises(InvalidSetting, value, setting_text, value)
            self.raises(InvalidSetting, value, setting_text, setting=value)

    def test_six_deeds_of_four_kinds(self):
        for table in (CORNERS, LONG):
            words = sorted({one for one, _ in table})
            deeds = dict(zip(["abcdefgh", "b", "c", "d", "e", "zzzzzzzz"], words * 2))
            setting = Setting(Kinds(table), deeds, own_squares(Kinds(table)))
            self.assertEqual(len(setting_text(setting).split("\n")), 16 + 1 + 6 + 1)
            self.tells(setting, read_setting, setting_text(setting))


class LogsTexts(PapersCase):
    """[78]: logs_text, read_logs."""

    def test_each_is_read_back(self):
        chance = random.Random(9)
        words = ["a", "b", "abcdefgh", "z", "do"]
        for _ in range(200):
            logs = [chance.choices(words, k=chance.randrange(0, 4)) for _ in range(chance.randrange(0, 5))]
            text = "\n".join(" ".join(log) or "-" for log in logs)
            self.tells(text, logs_text, logs)
            self.tells(logs, read_logs, text)
            self.tells(logs, read_logs, text=logs_text(logs=logs))

    def test_by_hand(self):
        self.tells("", logs_text, [])
        self.tells([], read_logs, "")
        self.tells("-", logs_text, [[]])
        self.tells([[]], read_logs, "-")
        self.tells("-\n-", logs_text, [[], []])
        self.tells([[], []], read_logs, "-\n-")
        self.tells("a b\n-\na", logs_text, [["a", "b"], [], ["a"]])
        self.tells([[], ["b", "a"]], read_logs, "-\nb a")
        self.tells("even", logs_text, [["even"]])

    def test_two_hundred_and_fifty_lines(self):
        logs = [["abc"] * (at % 61) for at in range(250)]
        self.tells(logs, read_logs, logs_text(logs))

    def test_bent_texts(self):
        for text in ("a b\n-\na", "-", "abcdefgh ab\n-\n-", "a"):
            for one in bent(text):
                self.read_or_refused(read_logs, logs_text, one)

    def test_wrong_texts(self):
        texts = ["\n", " ", "a\n", "\na", "a ", " a", "a  b", "a\n\nb", "- ", " -", "--", "- -", "a -", "- a", "-\n",
                 "\n-", "A", "a B", "abcdefghi", "1", "a\tb", "a, b", "_"]
        for value in texts + [one for one in odd_objects() if one not in ("", "a", "a b", "evenodd", "oddeveno")] + [
                [["a"]], ["a"], ("a",)]:
            self.raises(InvalidText, value, read_logs, value)
            self.raises(InvalidText, value, read_logs, text=value)

    def test_wrong_ones(self):
        for value in NO_LOGS_LISTS:
            self.raises(InvalidLogs, value, logs_text, value)
            self.raises(InvalidLogs, value, logs_text, logs=value)


if __name__ == "__main__":
    unittest.main()
