"""The document's own examples, to the sign."""

import unittest

EXAMPLES = {
    "section 3": '''
from kindtwice.kinds import Kinds, bare_rows, coming_back, is_bare, longest_bare, most_bare, opposite, own_power, own_squares, power, put_all
parity = Kinds({("even", "even"): "even", ("even", "odd"): "odd", ("odd", "even"): "odd", ("odd", "odd"): "even"})
[own_squares(parity), put_all(parity, ["odd", "odd", "odd"]), power(parity, "odd", 1000), own_power(parity, "odd"), coming_back(parity, "odd"), coming_back(parity, "even")]
# [['even'], 'odd', 'even', 2, (1, 2), (1, 1)]
[most_bare(parity), longest_bare(parity), bare_rows(parity, 1), bare_rows(parity, 2), is_bare(parity, ["odd", "odd"]), opposite(parity) == parity]
# [1, ['odd'], [['odd']], [], False, True]
dull = Kinds({("x", "x"): "z", ("x", "z"): "z", ("z", "x"): "z", ("z", "z"): "z"})
[own_squares(dull), coming_back(dull, "x"), own_power(dull, "x")]
# [['z'], (2, 1), 2]
''',
    "section 4": '''
from kindtwice.kinds import Kinds
from kindtwice.settings import Setting, is_log, kind_between, kind_of, many_by_kind, may_redo, redo_points, renamed, with_twice
parity = Kinds({("even", "even"): "even", ("even", "odd"): "odd", ("odd", "even"): "odd", ("odd", "odd"): "even"})
setting = Setting(parity, {"a": "odd", "b": "even"}, ["even"])
log = ["a", "b", "b", "a"]
[kind_of(setting, log), kind_between(setting, log, 0, 3), many_by_kind(setting, log), redo_points(setting, log), redo_points(setting, log[:3]), may_redo(setting, log, 1, 3)]
# ['even', 'odd', {'even': 4, 'odd': 6}, [0], [1, 2], True]
[is_log(setting, []), is_log(setting, ["c"]), with_twice(setting, []).twice(), renamed(setting, {"a": "on", "b": "off"}).deeds()]
# [True, False, [], {'off': 'even', 'on': 'odd'}]
''',
    "section 5": '''
from kindtwice.kinds import Kinds
from kindtwice.rows import is_row, is_scarce_row, longest_row, most_by_kind, most_stretches, scarce_row, shortened, sure_stretches
from kindtwice.settings import Setting
parity = Kinds({("even", "even"): "even", ("even", "odd"): "odd", ("odd", "even"): "odd", ("odd", "odd"): "even"})
setting = Setting(parity, {"a": "odd", "b": "even"}, ["even"])
log = ["a", "b", "b", "a", "a", "b", "a", "b"]
[most_stretches(setting, log), longest_row(setting, log), most_by_kind(setting, log), is_row(setting, log, ("even", [1, 3, 6])), is_row(setting, log, ("even", [0, 1]))]
# [4, ('even', [1, 2, 3, 5, 6]), {'even': 4}, True, False]
[shortened(setting, log, ("even", [1, 2, 3, 5, 6]), 1, 4), [sure_stretches(parity, number) for number in [1, 2, 3, 4, 5, 6]], is_scarce_row(parity, 3, scarce_row(parity, 3))]
# [['a', 'b', 'a', 'b'], [0, 1, 1, 2, 2, 3], True]
''',
    "section 6": '''
from kindtwice.kinds import Kinds
from kindtwice.settings import Setting
from kindtwice.trees import are_heights, bound_of, greatest_height, height_of, heights, is_least_tree, is_tree, kind_by, knots_of, least_height, log_of, low_tree, opposite_tree, pairs_alone
parity = Kinds({("even", "even"): "even", ("even", "odd"): "odd", ("odd", "even"): "odd", ("odd", "odd"): "even"})
setting = Setting(parity, {"a": "odd", "b": "even"}, ["even"])
tree = ("pair", "a", ("pair", ("run", "even", ["b", "b", "b", "b"]), "a"))
[is_tree(setting, tree), log_of(setting, tree), kind_by(setting, tree), height_of(setting, tree), is_tree(setting, ("run", "odd", ["a", "a"]))]
# [True, ['a', 'b', 'b', 'b', 'b', 'a'], 'even', 3, False]
[least_height(setting, ["a", "b", "b", "a"]), is_least_tree(setting, log_of(setting, tree), tree), bound_of(parity), pairs_alone(setting, ["b"] * 33), least_height(setting, ["b"] * 33)]
# [2, True, 5, 6, 1]
[height_of(setting, low_tree(setting, ["a", "b", "a"] * 40)) <= 5, pairs_alone(setting, ["a", "b", "a"] * 40), heights(setting, ["b", "b", "b"]), are_heights(setting, ["b", "a"], {(0, 1): 0, (0, 2): 2, (1, 2): 0})]
# [True, 7, {(0, 1): 0, (0, 2): 1, (0, 3): 1, (1, 2): 0, (1, 3): 1, (2, 3): 0}, False]
[[greatest_height(parity, number) for number in [1, 2, 3, 4, 5, 6]], knots_of(setting, tree)[:4], opposite_tree(setting, ("pair", "a", "b"))]
# [[0, 1, 2, 2, 3, 3], [(0, 6, 3), (0, 1, 0), (1, 6, 2), (1, 5, 1)], ('pair', 'b', 'a')]
''',
    "section 7": '''
from kindtwice.kinds import Kinds
from kindtwice.looks import are_looks, fewest_looks, fitting, knots_with, least_looks, most_looks, with_deed
from kindtwice.settings import Setting
parity = Kinds({("even", "even"): "even", ("even", "odd"): "odd", ("odd", "even"): "odd", ("odd", "odd"): "even"})
setting = Setting(parity, {"a": "odd", "b": "even", "c": "even"}, ["even"])
tree = ("pair", "a", ("pair", ("run", "even", ["b", "b", "b", "b"]), "a"))
[least_looks(setting, tree, 0, 3), least_looks(setting, tree, 2, 4), fewest_looks(setting, tree, 1, 6), most_looks(setting, tree)]
# [[(0, 1, 'odd'), (1, 3, 'even')], [(2, 4, 'even')], 1, 2]
[are_looks(setting, tree, 2, 4, [(2, 3, "even"), (3, 4, "even")]), are_looks(setting, tree, 0, 2, [(0, 2, "odd")]), knots_with(setting, tree, 2), fitting(setting, tree, 2), fitting(setting, tree, 0)]
# [True, False, [(0, 6, 3), (1, 6, 2), (1, 5, 1), (2, 3, 0)], ['b', 'c'], ['a', 'b', 'c']]
with_deed(setting, tree, 2, "c")
# ('pair', 'a', ('pair', ('run', 'even', ['b', 'c', 'b', 'b']), 'a'))
''',
    "section 8": '''
from kindtwice.doublings import all_squeezed, doublings, fewest_halvings, halvings, is_chain, is_doubling, is_squeezing, stays
from kindtwice.kinds import Kinds
from kindtwice.settings import Setting
parity = Kinds({("even", "even"): "even", ("even", "odd"): "odd", ("odd", "even"): "odd", ("odd", "odd"): "even"})
setting = Setting(parity, {"a": "odd", "b": "even"}, ["even"])
[doublings(setting, ["a", "b"]), halvings(setting, ["a", "b", "b", "a"]), halvings(setting, ["a", "a", "b", "a", "a", "b"]), halvings(setting, ["a", "b", "a", "b"])]
# [[['a', 'b', 'b']], [['a', 'b', 'a']], [['a', 'a', 'b']], []]
[is_doubling(setting, ["a", "b"], ["a", "b", "b"]), is_chain(setting, ["a", "b", "b"], ["a", "b"], [["a", "b", "b"], ["a", "b"]]), is_squeezing(setting, ["b", "b", "b"], [["b", "b", "b"], ["b", "b"], ["b"]]), all_squeezed(setting, ["b", "b", "b"]), fewest_halvings(setting, ["b", "b", "b", "b"])]
# [True, True, True, [['b']], 2]
stays(setting, ["a", "b", "b", "a"])
# ('even', ['a', 'b'], ['a', 'b'])
''',
    "section 9": '''
from kindtwice.endless import closed, counting_deeds, counting_store, is_endless, open_kinds, opened
from kindtwice.kinds import Kinds
from kindtwice.settings import Setting
parity = Kinds({("even", "even"): "even", ("even", "odd"): "odd", ("odd", "even"): "odd", ("odd", "odd"): "even"})
setting = Setting(parity, {"a": "odd", "b": "even"}, [])
[is_endless(setting), open_kinds(setting), counting_deeds(setting), closed(setting).twice(), opened(closed(setting), "even") == setting]
# [True, ['even'], ['b'], ['even'], True]
counting_store(setting, "b", 1).moves()
# {'a': {'a': 'c', 'b': 'b'}, 'b': {'a': 'c', 'b': 'c'}, 'c': {'a': 'c', 'b': 'c'}}
''',
    "section 10": '''
from kindtwice.alike import are_alike, difference, is_difference, is_plain, steps, whole_end, whole_start
from kindtwice.kinds import Kinds
from kindtwice.settings import Setting
from kindtwice.small import alike_logs, coming_logs, least, least_logs, many_unlike
parity = Kinds({("even", "even"): "even", ("even", "odd"): "odd", ("odd", "even"): "odd", ("odd", "odd"): "even"})
setting = Setting(parity, {"a": "odd", "b": "even"}, ["even"])
[is_plain(setting), steps(setting, ["a", "b", "a"]), whole_start(setting, ["a", "b", "a", "a"]), whole_end(setting, ["a", "b", "a", "a"])]
# [True, [('even', 'a'), ('odd', 'b'), ('odd', 'a')], 3, 3]
[are_alike(setting, ["a", "a", "a", "a"], ["a", "a"]), are_alike(setting, ["a", "b", "a"], ["b", "a", "a"]), is_difference(setting, ["a"], ["a", "a"], ([], ("odd", "a"))), is_difference(setting, ["a"], ["a", "a"], (["ahead"], ("even", "a")))]
# [True, False, True, True]
[many_unlike(setting), least(setting, ["b", "b", "a"]), coming_logs(setting, ["a"])]
# [185, ['b', 'a'], (2, 2)]
dull = Setting(Kinds({("x", "x"): "z", ("x", "z"): "z", ("z", "x"): "z", ("z", "z"): "z"}), {"p": "x", "q": "z"}, ["z"])
[is_plain(dull), many_unlike(dull), least_logs(dull)[:5], least(dull, ["q", "p", "p", "q"]), alike_logs(dull, ["p", "p"], 4)]
# [False, 12, [['p'], ['q'], ['p', 'p'], ['p', 'q'], ['q', 'p']], ['q', 'p', 'q'], [['p', 'p'], ['p', 'p', 'p'], ['p', 'p', 'p', 'p']]]
''',
    "sections 11 and 12": '''
from kindtwice.kinds import Kinds
from kindtwice.settings import Setting
from kindtwice.stores import Store, behind, behind_all, both_names, both_stores, is_typed, is_untyped, least_untyped, parted_states, typed_kinds
from kindtwice.telling import is_telling, least_states, own_names, own_store, telling
one = Setting(Kinds({("k", "k"): "k"}), {"p": "k", "q": "k"}, ["k"])
store = Store({"off": {"p": "on", "q": "off"}, "on": {"p": "off", "q": "on"}})
[behind(store, "off", ["p", "q", "p"]), behind_all(store, ["p"]), is_typed(one, store), least_untyped(one, store), is_untyped(one, store, (["p"], "off")), typed_kinds(one, store)]
# ['off', {'off': 'on', 'on': 'off'}, False, 1, True, []]
[parted_states(store, ["p"], []), both_names(store, store)["b"], behind(both_stores(store, store), "b", ["p"])]
# [['off', 'on'], ('off', 'on'), 'c']
[own_names(one), own_store(one).moves()["f"]]
# [{'a': [], 'b': ['p'], 'c': ['q'], 'd': ['p', 'q'], 'e': ['q', 'p'], 'f': ['p', 'q', 'p'], 'g': ['q', 'p', 'q']}, {'p': 'f', 'q': 'd'}]
[telling(one, ["p"], ["p", "p"]), is_telling(one, ["p"], ["q"], (own_store(one), "a")), least_states(one, ["p"], ["p", "p"]), len(least_states(one, ["p"], ["q"]))]
# [None, True, [], 7]
''',
    "section 16, of marks and falls": '''
from kindtwice.falls import begins, chain_back, done_log, is_chain_back
from kindtwice.kinds import Kinds
from kindtwice.marks import any_marks, open_points, fewest_marks, is_covered, many_fewest, reach
from kindtwice.settings import Setting
kinds = Kinds({("even", "even"): "even", ("even", "odd"): "odd", ("odd", "even"): "odd", ("odd", "odd"): "even"})
setting = Setting(kinds, {"a": "odd", "b": "even"}, ["even"])
log = ["b", "b", "a", "a", "b"]
[fewest_marks(setting, log), any_marks(setting, log), many_fewest(setting, log), reach(setting, log, 0), open_points(setting, log, [0, 4])]
# [3, [0, 3, 4], 1, 3, [(0, 3)]]
[begins(log, [0, 3, 4], [2, 5]), done_log(log, [0, 3, 4], [2, 5]), is_covered(setting, log, [0, 3, 4])]
# [[0, 4], ['b', 'b', 'b', 'b', 'a', 'a', 'b', 'b'], True]
is_chain_back(setting, log, [0, 3, 4], [2, 5], chain_back(setting, log, [0, 3, 4], [2, 5]))
# True
''',
    "section 16, of the desk": '''
from kindtwice.desk import Desk
from kindtwice.kinds import Kinds
from kindtwice.settings import Setting
parity = Kinds({("even", "even"): "even", ("even", "odd"): "odd", ("odd", "even"): "odd", ("odd", "odd"): "even"})
desk = Desk(Setting(parity, {"a": "odd", "b": "even"}, ["even"]))
[desk.next_mark(["b", "b", "a"]), desk.do("b"), desk.do("b"), desk.fall(), desk.at(), desk.go_on(), desk.do("a"), desk.is_safe(), desk.why_not()]
# [3, None, None, 0, 0, 2, None, False, [(0, 3)]]
[desk.mark(), desk.is_safe(), desk.fall(), desk.meant(), desk.done(), desk.falls(), desk.chain()[-1] == desk.meant()]
# [None, True, 3, ['b', 'b', 'a'], ['b', 'b', 'b', 'b', 'a'], [2, 3], True]
''',
    "section 17": r'''
from kindtwice.desk import Desk
from kindtwice.kinds import Kinds
from kindtwice.scripts import end_of, needless, play, read_script, script_text
from kindtwice.settings import Setting
parity = Kinds({("even", "even"): "even", ("even", "odd"): "odd", ("odd", "even"): "odd", ("odd", "odd"): "even"})
setting = Setting(parity, {"a": "odd", "b": "even"}, ["even"])
day = [("do", "b"), ("do", "b"), ("fall",), ("go_on",), ("try", [("do", "a")]), ("do", "a"), ("mark",), ("do", "c")]
[play(Desk(setting), day), read_script(script_text(day)) == day, script_text(day[3:5] + day[6:7])]
# [[('told', None), ('told', None), ('told', 0), ('told', 2), ('tried', [('told', None)]), ('told', None), ('told', None), ('refused', 'InvalidDeed')], True, 'go_on\ntry\n  do a\nend\nmark']
[end_of(setting, day), needless(setting, day)]
# [(['b', 'b', 'a'], [0, 3], [2]), [4, 7]]
''',
    "section 18": r'''
from kindtwice.kinds import Kinds
from kindtwice.papers import logs_text, read_logs, read_setting, setting_text
from kindtwice.settings import Setting
one = Kinds({("k", "k"): "k"})
[setting_text(Setting(one, {"p": "k", "q": "k"}, ["k"])), read_setting("k k = k\ndeeds\np k\ntwice") == Setting(one, {"p": "k"}, [])]
# ['k k = k\ndeeds\np k\nq k\ntwice k', True]
[logs_text([["a", "b"], [], ["a"]]), read_logs("-\nb a"), logs_text([])]
# ['a b\n-\na', [[], ['b', 'a']], '']
''',
}


class Examples(unittest.TestCase):
    def test_each_line_that_a_result_follows(self):
        for section, text in EXAMPLES.items():
            names = {}
            lines = text.strip().split("\n")
            told = 0
            for line, following in zip(lines, lines[1:] + [""]):
                if following.startswith("# "):
                    self.assertEqual("# " + repr(eval(line, names)), following, section)
                    told += 1
                elif not line.startswith("# "):
                    exec(line, names)
            self.assertEqual(told, text.count("\n# "))


if __name__ == "__main__":
    unittest.main()
