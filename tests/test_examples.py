"""The document's own examples, to the sign."""

import unittest

EXAMPLES = {
    "section 3": '''
from kindtwice.kinds import Kinds, bare_rows, coming_back, is_bare, longest_bare, most_bare, opposite, own_power, own_squares, power, put_all
parity = Kinds({("even", "even"): "even", ("even", "odd"): "odd", ("odd", "even"): "odd", ("odd", "odd"): "even"})
[own_squares(parity), put_all(parity, ["odd", "odd", "odd"]), power(parity, "odd", 1000), own_power(parity, "odd"), coming_back(parity, "odd"), coming_back(parity, "even")]
# [['even'], 'odd', 'even', 2, (1, 2), (1, 1)]
[most_bare(parity), longest_bare(parity), bare_rows(parity, 1), bare_rows(parity, 2), is_bare(parity, ["odd", "odd"]), opposite(parity) == parity]
# [1, ['odd'], [['odd']], [], False, True]
dull = Kinds({("x", "x"): "z", ("x", "z"): "z", ("z", "x"): "z", ("z", "z"): "z"})
[own_squares(dull), coming_back(dull, "x"), own_power(dull, "x")]
# [['z'], (2, 1), 2]
''',
    "section 4": '''
from kindtwice.kinds import Kinds
from kindtwice.settings import Setting, is_log, kind_between, kind_of, many_by_kind, may_redo, redo_points, renamed, with_twice
parity = Kinds({("even", "even"): "even", ("even", "odd"): "odd", ("odd", "even"): "odd", ("odd", "odd"): "even"})
setting = Setting(parity, {"a": "odd", "b": "even"}, ["even"])
log = ["a", "b", "b", "a"]
[kind_of(setting, log), kind_between(setting, log, 0, 3), many_by_kind(setting, log), redo_points(setting, log), redo_points(setting, log[:3]), may_redo(setting, log, 1, 3)]
# ['even', 'odd', {'even': 4, 'odd': 6}, [0], [1, 2], True]
[is_log(setting, []), is_log(setting, ["c"]), with_twice(setting, []).twice(), renamed(setting, {"a": "on", "b": "off"}).deeds()]
# [True, False, [], {'off': 'even', 'on': 'odd'}]
''',
    "section 5": '''
from kindtwice.kinds import Kinds
from kindtwice.rows import is_row, is_scarce_row, longest_row, most_by_kind, most_stretches, scarce_row, shortened, sure_stretches
from kindtwice.settings import Setting
parity = Kinds({("even", "even"): "even", ("even", "odd"): "odd", ("odd", "even"): "odd", ("odd", "odd"): "even"})
setting = Setting(parity, {"a": "odd", "b": "even"}, ["even"])
log = ["a", "b", "b", "a", "a", "b", "a", "b"]
[most_stretches(setting, log), longest_row(setting, log), most_by_kind(setting, log), is_row(setting, log, ("even", [1, 3, 6])), is_row(setting, log, ("even", [0, 1]))]
# [4, ('even', [1, 2, 3, 5, 6]), {'even': 4}, True, False]
[shortened(setting, log, ("even", [1, 2, 3, 5, 6]), 1, 4), [sure_stretches(parity, number) for number in [1, 2, 3, 4, 5, 6]], is_scarce_row(parity, 3, scarce_row(parity, 3))]
# [['a', 'b', 'a', 'b'], [0, 1, 1, 2, 2, 3], True]
''',
    "section 6": '''
from kindtwice.kinds import Kinds
from kindtwice.settings import Setting
from kindtwice.trees import are_heights, bound_of, greatest_height, height_of, heights, is_least_tree, is_tree, kind_by, knots_of, least_height, log_of, low_tree, opposite_tree, pairs_alone
parity = Kinds({("even", "even"): "even", ("even", "odd"): "odd", ("odd", "even"): "odd", ("odd", "odd"): "even"})
setting = Setting(parity, {"a": "odd", "b": "even"}, ["even"])
tree = ("pair", "a", ("pair", ("run", "even", ["b", "b", "b", "b"]), "a"))
[is_tree(setting, tree), log_of(setting, tree), kind_by(setting, tree), height_of(setting, tree), is_tree(setting, ("run", "odd", ["a", "a"]))]
# [True, ['a', 'b', 'b', 'b', 'b', 'a'], 'even', 3, False]
[least_height(setting, ["a", "b", "b", "a"]), is_least_tree(setting, log_of(setting, tree), tree), bound_of(parity), pairs_alone(setting, ["b"] * 33), least_height(setting, ["b"] * 33)]
# [2, True, 5, 6, 1]
[height_of(setting, low_tree(setting, ["a", "b", "a"] * 40)) <= 5, pairs_alone(setting, ["a", "b", "a"] * 40), heights(setting, ["b", "b", "b"]), are_heights(setting, ["b", "a"], {(0, 1): 0, (0, 2): 2, (1, 2): 0})]
# [True, 7, {(0, 1): 0, (0, 2): 1, (0, 3): 1, (1, 2): 0, (1, 3): 1, (2, 3): 0}, False]
[[greatest_height(parity, number) for number in [1, 2, 3, 4, 5, 6]], knots_of(setting, tree)[:4], opposite_tree(setting, ("pair", "a", "b"))]
# [[0, 1, 2, 2, 3, 3], [(0, 6, 3), (0, 1, 0), (1, 6, 2), (1, 5, 1)], ('pair', 'b', 'a')]
''',
    "section 7": '''
from kindtwice.kinds import Kinds
from kindtwice.looks import are_looks, fewest_looks, fitting, knots_with, least_looks, most_looks, with_deed
from kindtwice.settings import Setting
parity = Kinds({("even", "even"): "even", ("even", "odd"): "odd", ("odd", "even"): "odd", ("odd", "odd"): "even"})
setting = Setting(parity, {"a": "odd", "b": "even", "c": "even"}, ["even"])
tree = ("pair", "a", ("pair", ("run", "even", ["b", "b", "b", "b"]), "a"))
[least_looks(setting, tree, 0, 3), least_looks(setting, tree, 2, 4), fewest_looks(setting, tree, 1, 6), most_looks(setting, tree)]
# [[(0, 1, 'odd'), (1, 3, 'even')], [(2, 4, 'even')], 1, 2]
[are_looks(setting, tree, 2, 4, [(2, 3, "even"), (3, 4, "even")]), are_looks(setting, tree, 0, 2, [(0, 2, "odd")]), knots_with(setting, tree, 2), fitting(setting, tree, 2), fitting(setting, tree, 0)]
# [True, False, [(0, 6, 3), (1, 6, 2), (1, 5, 1), (2, 3, 0)], ['b', 'c'], ['a', 'b', 'c']]
with_deed(setting, tree, 2, "c")
# ('pair', 'a', ('pair', ('run', 'even', ['b', 'c', 'b', 'b']), 'a'))
''',
    "section 8": '''
from kindtwice.doublings import all_squeezed, doublings, fewest_halvings, halvings, is_chain, is_doubling, is_squeezing, stays
from kindtwice.kinds import Kinds
from kindtwice.settings import Setting
parity = Kinds({("even", "even"): "even", ("even", "odd"): "odd", ("odd", "even"): "odd", ("odd", "odd"): "even"})
setting = Setting(parity, {"a": "odd", "b": "even"}, ["even"])
[doublings(setting, ["a", "b"]), halvings(setting, ["a", "b", "b", "a"]), halvings(setting, ["a", "a", "b", "a", "a", "b"]), halvings(setting, ["a", "b", "a", "b"])]
# [[['a', 'b', 'b']], [['a', 'b', 'a']], [['a', 'a', 'b']], []]
[is_doubling(setting, ["a", "b"], ["a", "b", "b"]), is_chain(setting, ["a", "b", "b"], ["a", "b"], [["a", "b", "b"], ["a", "b"]]), is_squeezing(setting, ["b", "b", "b"], [["b", "b", "b"], ["b", "b"], ["b"]]), all_squeezed(setting, ["b", "b", "b"]), fewest_halvings(setting, ["b", "b", "b", "b"])]
# [True, True, True, [['b']], 2]
stays(setting, ["a", "b", "b", "a"])
# ('even', ['a', 'b'], ['a', 'b'])
''',
    "section 9": '''
from kindtwice.endless import closed, counting_deeds, counting_store, is_endless, open_kinds, opened
from kindtwice.kinds import Kinds
from kindtwice.settings import Setting
parity = Kinds({("even", "even"): "even", ("even", "odd"): "odd", ("odd", "even"): "odd", ("odd", "odd"): "even"})
setting = Setting(parity, {"a": "odd", "b": "even"}, [])
[is_endless(setting), open_kinds(setting), counting_deeds(setting), closed(setting).twice(), opened(closed(setting), "even") == setting]
# [True, ['even'], ['b'], ['even'], True]
counting_store(setting, "b", 1).moves()
# {'a': {'a': 'c', 'b': 'b'}, 'b': {'a': 'c', 'b': 'c'}, 'c': {'a': 'c', 'b': 'c'}}
''',
    "section 10, of kindtwice.alike": '''
from kindtwice.alike import are_alike, difference, is_difference, is_plain, steps, whole_end, whole_start
from kindtwice.kinds import Kinds
from kindtwice.settings import Setting
parity = Kinds({("even", "even"): "even", ("even", "odd"): "odd", ("odd", "even"): "odd", ("odd", "odd"): "even"})
setting = Setting(parity, {"a": "odd", "b": "even"}, ["even"])
[is_plain(setting), steps(setting, ["a", "b", "a"]), whole_start(setting, ["a", "b", "a", "a"]), whole_end(setting, ["a", "b", "a", "a"])]
# [True, [('even', 'a'), ('odd', 'b'), ('odd', 'a')], 3, 3]
[are_alike(setting, ["a", "a", "a", "a"], ["a", "a"]), are_alike(setting, ["a", "b", "a"], ["b", "a", "a"]), is_difference(setting, ["a"], ["a", "a"], ([], ("odd", "a"))), is_difference(setting, ["a"], ["a", "a"], (["ahead"], ("even", "a")))]
# [True, False, True, True]
dull = Setting(Kinds({("x", "x"): "z", ("x", "z"): "z", ("z", "x"): "z", ("z", "z"): "z"}), {"p": "x", "q": "z"}, ["z"])
is_plain(dull)
# False
''',
    "section 11": '''
from kindtwice.kinds import Kinds
from kindtwice.settings import Setting
from kindtwice.stores import Store, behind, behind_all, both_names, both_stores, is_typed, is_untyped, least_untyped, parted_states, typed_kinds
one = Setting(Kinds({("k", "k"): "k"}), {"p": "k", "q": "k"}, ["k"])
store = Store({"off": {"p": "on", "q": "off"}, "on": {"p": "off", "q": "on"}})
[behind(store, "off", ["p", "q", "p"]), behind_all(store, ["p"]), is_typed(one, store), least_untyped(one, store), is_untyped(one, store, (["p"], "off")), typed_kinds(one, store)]
# ['off', {'off': 'on', 'on': 'off'}, False, 1, True, []]
[parted_states(store, ["p"], []), both_names(store, store)["b"], behind(both_stores(store, store), "b", ["p"])]
# [['off', 'on'], ('off', 'on'), 'c']
''',
}


class Examples(unittest.TestCase):
    def test_each_line_that_a_result_follows(self):
        for section, text in EXAMPLES.items():
            names = {}
            lines = text.strip().split("\n")
            told = 0
            for line, following in zip(lines, lines[1:] + [""]):
                if following.startswith("# "):
                    self.assertEqual("# " + repr(eval(line, names)), following, section)
                    told += 1
                elif not line.startswith("# "):
                    exec(line, names)
            self.assertEqual(told, text.count("\n# "))


if __name__ == "__main__":
    unittest.main()
