"""[14]: bare rows of kinds."""

import unittest

from kindtwice.errors import InvalidCount, InvalidKinds
from kindtwice.kinds import Kinds, bare_rows, is_bare, is_longest_bare, longest_bare, most_bare, own_squares
from tests.helping import (CHAIN, CORNERS, DULL, LONG, MANY_TABLES, ONE, PARITY, Case, all_tables, is_free, no_counts,
                           no_kinds, no_rows_of_parity, odd_objects, once_again, rows_of, words_of)


def free_rows(table, number):
    """All bare rows of so many kinds, by the words of the document alone."""
    return [row for row in rows_of(words_of(table), number) if is_free(table, row)]


class IsBare(Case):
    def test_all_short_rows(self):
        for table in MANY_TABLES + tuple(all_tables(2)) + tuple(all_tables(3)[::4]):
            for number in range(5):
                for row in rows_of(words_of(table), number):
                    self.same(is_bare(Kinds(table), row), is_free(table, row))

    def test_the_empty_row(self):
        for table in MANY_TABLES:
            self.tells(True, is_bare, Kinds(table), [])

    def test_one_stretch_anywhere_is_enough(self):
        kinds = Kinds(LONG)
        self.tells(True, is_bare, kinds, ["c", "c", "d", "c", "c"])
        for at in range(6):
            row = ["c", "c", "d", "c", "c"]
            row.insert(at, "a")
            self.tells(False, is_bare, kinds, row)
        self.tells(False, is_bare, kinds, ["d", "d"])
        self.tells(False, is_bare, kinds, ["c", "d", "c", "d", "c"])
        self.tells(False, is_bare, kinds, ["c", "c", "c", "d"])
        self.tells(False, is_bare, kinds, ["d", "c", "c", "c"])
        self.tells(False, is_bare, kinds, ["c", "d", "d", "c"])

    def test_rows_of_sixty(self):
        for table in MANY_TABLES:
            words = words_of(table)
            row = [words[(at * at + at // 3) % len(words)] for at in range(60)]
            self.tells(False, is_bare, Kinds(table), row)
            self.tells(False, is_bare, row=words[:1] * 60, kinds=Kinds(table))

    def test_wrong_ones(self):
        rows = [row for row in odd_objects() if row != []] + no_rows_of_parity()
        self.wrong_one_by_one(is_bare, {"kinds": Kinds(PARITY), "row": ["odd"]},
                              {"kinds": (InvalidKinds, no_kinds()), "row": (InvalidKinds, rows)})


class BareRows(Case):
    def test_all_tables_and_all_numbers(self):
        for table in MANY_TABLES + tuple(all_tables(2)) + tuple(all_tables(3)):
            number = 0
            wanted = [[]]
            while wanted:
                self.same(bare_rows(Kinds(table), number), wanted)
                number += 1
                wanted = free_rows(table, number)
            for beyond in (number, number + 1, 12):
                self.same(bare_rows(Kinds(table), beyond), [])

    def test_tables_of_four_kinds(self):
        for table in all_tables(4)[::40]:
            for number in range(5):
                self.same(bare_rows(Kinds(table), number), free_rows(table, number))

    def test_of_none(self):
        for table in MANY_TABLES:
            self.tells([[]], bare_rows, Kinds(table), 0)

    def test_of_many(self):
        for table in MANY_TABLES:
            self.tells([], bare_rows, Kinds(table), 6)
            self.tells([], bare_rows, number=60, kinds=Kinds(table))

    def test_by_hand(self):
        self.tells([["b"], ["c"], ["d"]], bare_rows, Kinds(LONG), 1)
        self.tells([["c", "c", "d", "c", "c"]], bare_rows, Kinds(LONG), 5)
        self.tells([["x"]], bare_rows, Kinds(DULL), 1)
        self.tells([], bare_rows, Kinds(DULL), 2)
        self.tells([["q", "q", "q"]], bare_rows, Kinds(once_again(4, 1)), 3)

    def test_wrong_ones(self):
        self.wrong_one_by_one(bare_rows, {"kinds": Kinds(PARITY), "number": 0},
                              {"kinds": (InvalidKinds, no_kinds()), "number": (InvalidCount, no_counts(0))})


class Longest(Case):
    def check(self, table, most):
        kinds = Kinds(table)
        self.tells(most, most_bare, kinds)
        longest = self.told(longest_bare, kinds)
        self.assertEqual(len(longest), most)
        self.assertTrue(is_free(table, longest))
        self.tells(True, is_longest_bare, kinds, longest)
        self.tells(False, is_longest_bare, kinds, longest[1:] if longest else None)
        for word in words_of(table):
            self.tells(False, is_longest_bare, kinds, longest + [word])
            self.tells(False, is_longest_bare, kinds, [word] + longest)
        self.tells(False, is_longest_bare, kinds, tuple(longest))

    def test_of_all_small_tables(self):
        for table in MANY_TABLES + tuple(all_tables(1)) + tuple(all_tables(2)) + tuple(all_tables(3)):
            most = 0
            while free_rows(table, most + 1):
                most += 1
            self.check(table, most)

    def test_of_all_tables_of_four_kinds(self):
        many = {}
        for table in all_tables(4):
            most = most_bare(Kinds(table))
            many[most] = many.get(most, 0) + 1
        self.assertEqual(many, {0: 604, 1: 2092, 2: 444, 3: 316, 5: 36})

    def test_by_hand(self):
        self.check(ONE, 0)
        self.check(CHAIN, 0)
        self.check(CORNERS, 0)
        self.check(PARITY, 1)
        self.check(DULL, 1)
        self.check(once_again(1, 4), 3)
        self.check(once_again(4, 1), 3)
        self.check(LONG, 5)

    def test_where_all_kinds_are_own_squares(self):
        for table in (ONE, CHAIN, CORNERS):
            self.tells([], longest_bare, kinds=Kinds(table))
            self.tells(0, most_bare, kinds=Kinds(table))
            self.tells(True, is_longest_bare, value=[], kinds=Kinds(table))
            self.tells([], bare_rows, Kinds(table), 1)

    def test_all_rows_as_long_are_longest(self):
        for table in MANY_TABLES + tuple(all_tables(3)[::3]):
            kinds = Kinds(table)
            most = most_bare(kinds)
            for row in rows_of(words_of(table), most):
                self.same(is_longest_bare(kinds, row), is_free(table, row))
            if most > 0:
                for row in free_rows(table, most - 1):
                    self.same(is_longest_bare(kinds, row), False)

    def test_any_object_is_judged(self):
        for table in (PARITY, LONG, ONE, once_again(1, 3)):
            kinds = Kinds(table)
            for value in odd_objects() + no_rows_of_parity():
                self.tells(table == ONE and value == [], is_longest_bare, kinds, value)
                self.tells(table == ONE and value == [], is_longest_bare, kinds=kinds, value=value)
        self.tells(False, is_longest_bare, Kinds(LONG), ("c", "c", "d", "c", "c"))
        self.tells(False, is_longest_bare, Kinds(LONG), "ccdcc")
        self.tells(False, is_longest_bare, Kinds(LONG), ["c", "c", "d", "c", ["c"]])
        self.tells(False, is_longest_bare, Kinds(LONG), ["c", "c", "d", "c", "e"])
        self.tells(False, is_longest_bare, Kinds(PARITY), ["odd"] * 60)

    def test_wrong_ones(self):
        wrong = {"kinds": (InvalidKinds, no_kinds())}
        self.wrong_one_by_one(most_bare, {"kinds": Kinds(PARITY)}, wrong)
        self.wrong_one_by_one(longest_bare, {"kinds": Kinds(PARITY)}, wrong)
        for value in (["odd"], [], None, ("odd",), 7):
            self.wrong_one_by_one(is_longest_bare, {"kinds": Kinds(PARITY), "value": value}, wrong)

    def test_beyond_the_limit_of_kinds_is_no_error(self):
        words = ["a", "b", "c", "d", "e"]
        table = {(one, other): words[(words.index(one) + words.index(other)) % 5] for one in words for other in words}
        self.assertEqual(own_squares(Kinds(table)), ["a"])
        self.check(table, 4)


if __name__ == "__main__":
    unittest.main()
