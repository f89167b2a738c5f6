"""The document's own examples, to the sign."""

import unittest

EXAMPLES = {
    "section 3": '''
from kindtwice.kinds import Kinds, bare_rows, coming_back, is_bare, longest_bare, most_bare, opposite, own_power, own_squares, power, put_all
parity = Kinds({("even", "even"): "even", ("even", "odd"): "odd", ("odd", "even"): "odd", ("odd", "odd"): "even"})
[own_squares(parity), put_all(parity, ["odd", "odd", "odd"]), power(parity, "odd", 1000), own_power(parity, "odd"), coming_back(parity, "odd"), coming_back(parity, "even")]
# [['even'], 'odd', 'even', 2, (1, 2), (1, 1)]
[most_bare(parity), longest_bare(parity), bare_rows(parity, 1), bare_rows(parity, 2), is_bare(parity, ["odd", "odd"]), opposite(parity) == parity]
# [1, ['odd'], [['odd']], [], False, True]
dull = Kinds({("x", "x"): "z", ("x", "z"): "z", ("z", "x"): "z", ("z", "z"): "z"})
[own_squares(dull), coming_back(dull, "x"), own_power(dull, "x")]
# [['z'], (2, 1), 2]
''',
    "section 4": '''
from kindtwice.kinds import Kinds
from kindtwice.settings import Setting, is_log, kind_between, kind_of, many_by_kind, may_redo, redo_points, renamed, with_twice
parity = Kinds({("even", "even"): "even", ("even", "odd"): "odd", ("odd", "even"): "odd", ("odd", "odd"): "even"})
setting = Setting(parity, {"a": "odd", "b": "even"}, ["even"])
log = ["a", "b", "b", "a"]
[kind_of(setting, log), kind_between(setting, log, 0, 3), many_by_kind(setting, log), redo_points(setting, log), redo_points(setting, log[:3]), may_redo(setting, log, 1, 3)]
# ['even', 'odd', {'even': 4, 'odd': 6}, [0], [1, 2], True]
[is_log(setting, []), is_log(setting, ["c"]), with_twice(setting, []).twice(), renamed(setting, {"a": "on", "b": "off"}).deeds()]
# [True, False, [], {'off': 'even', 'on': 'odd'}]
''',
}


class Examples(unittest.TestCase):
    def test_each_line_that_a_result_follows(self):
        for section, text in EXAMPLES.items():
            names = {}
            lines = text.strip().split("\n")
            told = 0
            for line, following in zip(lines, lines[1:] + [""]):
                if following.startswith("# "):
                    self.assertEqual("# " + repr(eval(line, names)), following, section)
                    told += 1
                elif not line.startswith("# "):
                    exec(line, names)
            self.assertEqual(told, text.count("\n# "))


if __name__ == "__main__":
    unittest.main()
