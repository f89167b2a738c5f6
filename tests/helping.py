"""What several test files use: tables, odd objects, and checks that see the difference between 1 and True."""

import unittest

from kindtwice.desk import Desk
from kindtwice.errors import InvalidTable, NothingToRedo, TwiceError
from kindtwice.kinds import Kinds
from kindtwice.settings import Setting
from kindtwice.stores import Store

PARITY = {("even", "even"): "even", ("even", "odd"): "odd", ("odd", "even"): "odd", ("odd", "odd"): "even"}
DULL = {("x", "x"): "z", ("x", "z"): "z", ("z", "x"): "z", ("z", "z"): "z"}
ONE = {("k", "k"): "k"}
NAMES = ("q", "abcdefgh", "m", "z")


def once_again(lead, cycle):
    """The table of the powers of one kind, the words in any order: lead of it are lead and cycle of it."""
    many = lead + cycle - 1

    def least(power):
        return power if power <= many else lead + (power - lead) % cycle

    return {(NAMES[a - 1], NAMES[b - 1]): NAMES[least(a + b) - 1]
            for a in range(1, many + 1) for b in range(1, many + 1)}


def by_rule(words, rule):
    return {(one, other): rule(one, other) for one in words for other in words}


FIRST_STAYS = by_rule("abc", lambda one, other: one)
LAST_STAYS = by_rule("abc", lambda one, other: other)
CHAIN = by_rule(["mn", "m", "aa", "zz"], max)
CORNERS = by_rule(["ax", "ay", "bx", "by"], lambda one, other: one[0] + other[1])
KLEIN = by_rule(["aa", "ab", "ba", "bb"],
                lambda one, other: "".join("a" if x == y else "b" for x, y in zip(one, other)))

# Its one longest bare row has five kinds, and with four kinds none is longer: c c d c c.
LONG = {(one, other): word for one, told in zip("abcd", ("aaad", "aaad", "aabd", "ddda"))
        for other, word in zip("abcd", told)}
SETTING = Setting(Kinds(PARITY), {"a": "odd", "b": "even"}, ["even"])
MANY_TABLES = (ONE, PARITY, DULL, FIRST_STAYS, LAST_STAYS, CHAIN, CORNERS, KLEIN, LONG,
               once_again(1, 3), once_again(1, 4), once_again(4, 1), once_again(2, 3), once_again(3, 2),
               once_again(2, 2))


def all_tables(many):
    """All tables free of brackets of so many kinds, a, b, c, d."""
    words = "abcd"[:many]
    cells = [(one, other) for one in words for other in words]
    table = {}
    found = []

    def agrees():
        for one, other in table:
            for third in words:
                if (other, third) not in table:
                    continue
                left = table.get((table[(one, other)], third))
                right = table.get((one, table[(other, third)]))
                if left is not None and right is not None and left != right:
                    return False
        return True

    def fill(at):
        if at == len(cells):
            found.append(dict(table))
            return
        for word in words:
            table[cells[at]] = word
            if agrees():
                fill(at + 1)
            del table[cells[at]]

    fill(0)
    return found


def words_of(table):
    """The kinds of a table, ascending."""
    return sorted({one for one, _ in table})


def turned(table):
    """The same dictionary, keys from the last to the first as they are ordered."""
    return {key: table[key] for key in sorted(table, reverse=True)}


def put_together(table, row):
    """The kind of a row, from the right, as the table tells."""
    whole = row[-1]
    for kind in row[-2::-1]:
        whole = table[(kind, whole)]
    return whole


def stretches(row):
    """All tuples of two points of a row and the stretch between them."""
    return [(first, last, row[first:last]) for first in range(len(row)) for last in range(first + 1, len(row) + 1)]


def rows_of(words, number):
    """All lists of so many of some words, ascending."""
    rows = [[]]
    for _ in range(number):
        rows = [row + [word] for row in rows for word in sorted(words)]
    return rows


def is_free(table, row):
    """Whether no stretch of a row is of an own-square kind, by the words of the document alone."""
    wholes = [put_together(table, stretch) for _, _, stretch in stretches(row)]
    return all(table[(whole, whole)] != whole for whole in wholes)


def odd_objects():
    """Objects of all sorts that the document calls any object, new ones from each call."""
    return [
        None, True, False, 0, 1, 2, -1, -2, 7, 10 ** 30, -10 ** 30,
        "", " ", "a", "A", "Odd", "odd ", " odd", "odd\n", "\todd", "a b", "a1", "a-b", "evenodd", "oddeveno",
        "abcdefghi", "1", "True", "None", "~", "{}",
        [], [None], [0], [1, 2], [True], [""], ["A"], ["nokind"], [["even"]], [("even",)], [[], []],
        (), (None,), (0, 1), ("even",), ("even", "odd"), ("a", "b", "a"), ((), ()),
        {}, {None: None}, {"nokind": "nokind"}, {0: "even"}, {True: False}, {"a": ["even"]}, {(): []},
        {("a", "b"): "a"}, {("a",): "a"}, {"A": "even"}, {"a": 1, 2: [{}]}, dict(PARITY, extra="even"),
        Kinds(dict(FIRST_STAYS)), Setting(Kinds(dict(ONE)), {"p": "k"}, ["k"]),
        Store({"on": {"a": "on"}}), Desk(Setting(Kinds(dict(ONE)), {"p": "k"}, ["k"])), TwiceError(),
        InvalidTable([1]),
    ]


def no_kinds():
    """Objects that are no Kinds."""
    return [one for one in odd_objects() if not isinstance(one, Kinds)] + [dict(PARITY), ["even", "odd"]]


def no_counts(least):
    """Objects that are no counts of so much or more."""
    return [one for one in odd_objects() if isinstance(one, bool) or not isinstance(one, int) or one < least]


def no_rows_of_parity():
    """Objects that are no rows of kinds of PARITY, not even empty."""
    return [("odd",), ("odd", "even"), "odd", ["odd", "Odd"], ["odd", None], [["odd"]], ["odd", ["odd"]],
            ["odd", True], ["odd", 1], {"odd": "even"}, ["evenodd"], ["odd", "z"], [("odd",)], ["odd", ""],
            [{"odd": 1}], [0, "odd"], (), {}, "", None, True, False, 0, [Kinds(dict(PARITY))]]


def no_settings():
    """Objects that are no settings."""
    return [one for one in odd_objects() if not isinstance(one, Setting)] + [
        (Kinds(dict(PARITY)), {"a": "odd", "b": "even"}, ["even"]), Kinds(dict(PARITY)), {"a": "odd", "b": "even"}]


def no_logs():
    """Objects that are no logs of SETTING."""
    return [one for one in odd_objects() if one != []] + [
        ("a", "b"), ("a",), (), "a", "ab", ["a", "c"], ["c"], ["a", "A"], ["a", ""], ["a", None], ["a", ["b"]],
        [["a", "b"]], ["ab"], ["odd"], ["even"], ["a", 0], [True], {"a": "odd"}, {0: "a"}, [("a",)], [{"a": 1}],
        ["a", Kinds(PARITY)], ["a "], [Setting(Kinds(ONE), {"a": "k"}, [])],
    ]


def kinds_in(setting, log):
    return [setting.deeds()[deed] for deed in log]


def long_log(setting, number):
    deeds = list(setting.deeds())
    return [deeds[(at * at + at // 3) % len(deeds)] for at in range(number)]


def no_stores():
    """Objects that are no stores."""
    return [one for one in odd_objects() if not isinstance(one, Store)] + [
        {"on": {"a": "on"}}, [Store({"on": {"a": "on"}})], (Store({"on": {"a": "on"}}),)]


def free(deeds, twice=("k",)):
    """The setting of one kind and some deeds."""
    return Setting(Kinds(ONE), {deed: "k" for deed in deeds}, list(twice))


def no_lists_of_words():
    """Objects that are no logs where no setting is passed."""
    return [one for one in odd_objects() if not isinstance(one, list)] + [
        ("a", "b"), (), "ab", ["a", "A"], ["a", ""], [None], [0], [True], [["a"]], [("a",)], [{"a": 1}], ["a "],
        ["a", "abcdefghi"], [Kinds(PARITY)], [[], []], {"a": "b"}]


def no_marks(many):
    """Objects that are no marks of a log of so many deeds."""
    return [one for one in odd_objects() if one != [0]] + [
        [], [1], [0, 0], [0, many + 1], [0, 1, 1], [1, 0], [0, 2, 1], [-1, 0], [0, -1], (0,), (0, 1), {0: 0}, [False],
        [False, 1], [0, True], [0, None], [0, "1"], ["0"], [[0]], [0, [1]], [(0,)], [0, 10 ** 30], "0", [None, 0],
        [0, Kinds(PARITY)], [0, (1,)], [0, {}]]


def no_days(many):
    """Objects that are no days of a log of so many deeds, two at least, and the mark 0."""
    return [one for one in odd_objects() if one != [] and one != [1, 2] and one != [0]] + [
        [many + 1], [-1], [0, many + 1], [1, -1], (), (0,), (1, 1), [False], [0, True], [None], ["1"], [[1]], [(0,)],
        {0: 0}, {}, "", "1", [1, None], [10 ** 30], [Kinds(PARITY)], [SETTING]]


def subsets(words):
    """All ascending lists of some of some words that ascend."""
    lists = [[]]
    for word in words:
        lists = lists + [one + [word] for one in lists]
    return lists


def some_setting(table):
    """A setting with one deed more than there are kinds and, of its own squares, all but the first in twice."""
    words = words_of(table)
    deeds = dict(zip(["go", "b", "a", "zz", "keep"], words + [words[-1]]))
    squares = [word for word in words if table[(word, word)] == word]
    return Setting(Kinds(table), deeds, squares[1:] or squares)


def again_of(desk):
    """What can be made again on a desk, as far as it goes."""
    other = desk.copy()
    while True:
        try:
            other.redo()
        except NothingToRedo:
            return other.record()


def strict(value):
    """A picture of a value that tells True from 1, a tuple from a list, and in which order keys stand."""
    if isinstance(value, list):
        return ("list", [strict(one) for one in value])
    if isinstance(value, tuple):
        return ("tuple", [strict(one) for one in value])
    if isinstance(value, dict):
        return ("dict", [(strict(key), strict(value[key])) for key in value])
    if isinstance(value, Kinds):
        return ("Kinds", strict(value.table()), strict(value.words()))
    if isinstance(value, Setting):
        return ("Setting", strict(value.kinds()), strict(value.deeds()), strict(value.twice()))
    if isinstance(value, Store):
        return ("Store", strict(value.moves()), strict(value.states()), strict(value.deeds()))
    if isinstance(value, Desk):
        return ("Desk", strict([value.meant(), value.done(), value.marks(), value.falls(), value.at(),
                                value.record()]), strict(again_of(value)))
    if isinstance(value, Exception):
        return (value.__class__.__name__, strict(getattr(value, "value", "no field")))
    return (value.__class__.__name__, value)


def wreck(value):
    """Change all lists and dictionaries in a value."""
    if isinstance(value, (list, tuple)):
        for one in value:
            wreck(one)
    if isinstance(value, list):
        value[:] = ["wrecked", value[:]]
    if isinstance(value, dict):
        for one in list(value.values()):
            wreck(one)
        value.clear()
        value["wrecked"] = 1


class Case(unittest.TestCase):
    """Checks that hold of every call: the same again, new lists, and what was passed stays."""

    def same(self, got, wanted):
        self.assertEqual(strict(got), strict(wanted))

    def told(self, function, /, *args, **named):
        """What a call returns, looked at: it is told again, whatever becomes of what it returned."""
        before = strict([list(args), named])
        first = function(*args, **named)
        picture = strict(first)
        self.assertEqual(strict([list(args), named]), before)
        wreck(first)
        self.assertEqual(strict([list(args), named]), before)
        again = function(*args, **named)
        self.assertEqual(strict(again), picture)
        return again

    def tells(self, wanted, function, /, *args, **named):
        self.same(self.told(function, *args, **named), wanted)

    def raises(self, error, value, function, /, *args, **named):
        """A call raises just this class of error, with the very object in its field, and changes nothing."""
        before = strict([list(args), named])
        with self.assertRaises(error) as caught:
            function(*args, **named)
        self.assertIs(caught.exception.__class__, error)
        self.assertIs(caught.exception.value, value)
        self.assertEqual(strict([list(args), named]), before)

    def wrong_one_by_one(self, function, good, wrong):
        """Each argument wrong alone and beside others: the error of the first wrong one.

        `good` is a dictionary from the names of the arguments, in their order, to right ones; `wrong` one from
        names to tuples of an error class and wrong ones.
        """
        names = list(good)
        for at, name in enumerate(names):
            if name not in wrong:
                continue
            error, objects = wrong[name]
            for value in objects:
                args = dict(good)
                args[name] = value
                self.raises(error, value, function, *args.values())
                self.raises(error, value, function, **args)
                for later in names[at + 1:]:
                    for other in wrong.get(later, (None, []))[1]:
                        both = dict(args)
                        both[later] = other
                        self.raises(error, value, function, *both.values())
                        self.raises(error, value, function, **{key: both[key] for key in reversed(both)})
                for other in objects[:3]:
                    rest = {later: wrong.get(later, (None, [other]))[1][0] for later in names[at + 1:]}
                    self.raises(error, value, function, **dict(args, **rest))
