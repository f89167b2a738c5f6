"""[10] to [13]: kinds, their tables, rows and powers."""

import unittest

from kindtwice.errors import InvalidCount, InvalidKind, InvalidKinds, InvalidTable
from kindtwice.kinds import Kinds, coming_back, opposite, own_power, own_squares, power, put_all
from tests.helping import (CHAIN, DULL, FIRST_STAYS, LAST_STAYS, MANY_TABLES, ONE, PARITY, Case, all_tables, by_rule,
                           no_counts, no_kinds, no_rows_of_parity, odd_objects, once_again, put_together, rows_of,
                           turned, words_of, wreck)


class Tables(Case):
    """[10]: what a table is, and what is none."""

    def refused(self, table):
        self.raises(InvalidTable, table, Kinds, table)
        self.raises(InvalidTable, table, Kinds, table=table)

    def test_all_tables_of_one_to_three_kinds_and_no_others(self):
        for many in (1, 2, 3):
            words = "abc"[:many]
            pairs = [(one, other) for one in words for other in words]
            free = all_tables(many)
            self.assertEqual(len(free), {1: 1, 2: 8, 3: 113}[many])
            for table in free:
                self.tells({pair: table[pair] for pair in pairs}, Kinds(table).table)
                self.tells(list(words), Kinds(turned(table)).words)
            for row in rows_of(words, many * many) if many < 3 else []:
                table = dict(zip(pairs, row))
                if table not in free:
                    self.refused(table)

    def test_tables_of_three_kinds_with_one_result_changed(self):
        free = all_tables(3)
        for table in free:
            for pair in table:
                for word in "abc":
                    other = dict(table)
                    other[pair] = word
                    if other in free:
                        self.same(Kinds(other).table(), other)
                    else:
                        self.refused(other)

    def test_all_tables_of_four_kinds(self):
        tables = all_tables(4)
        self.assertEqual(len(tables), 3492)
        for table in tables[::7]:
            self.same(Kinds(turned(table)).table(), {pair: table[pair] for pair in sorted(table)})

    def test_more_kinds_than_the_limit_are_no_error(self):
        words = ["a", "b", "c", "d", "e", "f"]
        self.tells(words, Kinds(by_rule(words, max)).words)

    def test_keys_ascend_however_they_were_passed(self):
        for table in MANY_TABLES:
            for passed in (table, turned(table)):
                kinds = Kinds(passed)
                self.tells({pair: table[pair] for pair in sorted(table)}, kinds.table)
                self.tells(words_of(table), kinds.words)

    def test_any_object_that_is_no_dictionary_from_words(self):
        for table in odd_objects() + [Kinds(PARITY), list(PARITY.items()), [dict(PARITY)], (dict(PARITY),)]:
            self.refused(table)

    def test_empty_is_none(self):
        self.refused({})

    def test_a_pair_missing(self):
        for table in MANY_TABLES:
            for pair in table:
                fewer = dict(table)
                del fewer[pair]
                self.refused(fewer)

    def test_keys_too_many(self):
        for key in [("even", "more"), ("more", "even"), ("more", "more"), "even", ("even",), ("even", "even", "even"),
                    (), None, True, 0, 1, ("even", 1), (1, "even"), ("even", None), (("even", "even"), "even"),
                    InvalidTable(), ("even", "Odd"), ("", "odd")]:
            self.refused({**PARITY, key: "even"})
            self.refused({key: "even", **PARITY})
            self.refused({key: "even"})

    def test_a_result_that_is_no_kind(self):
        for result in ["more", "a", "", "Even", "even ", None, True, 0, 1, ["even"], ("even",), {"even": 1}, [],
                       ("even", "odd"), Kinds(ONE), InvalidTable("even"), "evenodd"]:
            for pair in PARITY:
                self.refused({**PARITY, pair: result})
            self.refused({("k", "k"): result})

    def test_words_that_are_none(self):
        for word in ["", "abcdefghi", "K", "kK", "k1", "1", "k k", " k", "k ", "k\n", "k\t", "k_", "k-", "~", "`", "{",
                     "@", "[", 0, 1, True, None, ("k",), ()]:
            self.refused({(word, word): word})
            self.refused({(word, word): word, (word, "k"): word, ("k", word): word, ("k", "k"): word})
            self.refused({(word, word): "k", (word, "k"): "k", ("k", word): "k", ("k", "k"): "k"})

    def test_words_of_one_letter_and_of_eight(self):
        for word in ["a", "z", "az", "abcdefg", "abcdefgh", "zzzzzzzz"]:
            self.same(Kinds({(word, word): word}).words(), [word])

    def test_brackets_matter(self):
        self.refused(by_rule("ab", lambda one, other: "b" if one == other == "a" else "a"))
        self.refused({("a", "a"): "b", ("a", "b"): "a", ("b", "a"): "b", ("b", "b"): "b"})
        minus = by_rule("abc", lambda one, other: "abc"["abc".index(one) - "abc".index(other)])
        self.refused(minus)
        mean = by_rule(["r", "p", "s"], lambda one, other: one if one == other else min({"r", "p", "s"} - {one, other}))
        self.refused(mean)

    def test_what_was_passed_may_be_changed(self):
        for table in MANY_TABLES:
            passed = dict(table)
            kinds = Kinds(passed)
            wreck(passed)
            self.same(kinds.table(), {pair: table[pair] for pair in sorted(table)})
            self.same(kinds.words(), words_of(table))
            for one, other in table:
                self.same(kinds.put(one, other), table[(one, other)])

    def test_what_was_returned_may_be_changed(self):
        for table in MANY_TABLES:
            kinds = Kinds(table)
            wreck(kinds.table())
            wreck(kinds.words())
            taken = kinds.table()
            taken[sorted(table)[0]] = "other"
            kinds.words().append("other")
            self.same(kinds.table(), {pair: table[pair] for pair in sorted(table)})
            self.same(kinds.words(), words_of(table))
            self.assertEqual(kinds, Kinds(table))


class Put(Case):
    """[10]: put."""

    def test_it_tells_the_table(self):
        for table in MANY_TABLES:
            kinds = Kinds(table)
            for one, other in table:
                self.tells(table[(one, other)], kinds.put, one, other)
                self.tells(table[(one, other)], kinds.put, other=other, one=one)

    def test_wrong_ones_one_by_one(self):
        wrong = odd_objects() + [["even"], ("even", "odd"), ("odd",), {"even": "odd"}, Kinds(PARITY)]
        self.wrong_one_by_one(Kinds(PARITY).put, {"one": "even", "other": "odd"},
                              {"one": (InvalidKind, wrong), "other": (InvalidKind, wrong)})

    def test_the_first_wrong_one_of_two_of_one_sort(self):
        one, other = ["x"], ["x"]
        self.raises(InvalidKind, one, Kinds(PARITY).put, one, other)
        self.raises(InvalidKind, other, Kinds(PARITY).put, "odd", other)


class Equality(Case):
    """[10], [2]: two Kinds are equal exactly if their tables are."""

    def test_of_all_small_tables(self):
        tables = all_tables(1) + all_tables(2) + all_tables(3)[::6]
        for at, one in enumerate(tables):
            for place, other in enumerate(tables):
                self.assertIs(Kinds(one) == Kinds(turned(other)), at == place)
                self.assertIs(Kinds(one) != Kinds(turned(other)), at != place)

    def test_other_words(self):
        self.assertFalse(Kinds({("a", "a"): "a"}) == Kinds({("b", "b"): "b"}))
        self.assertTrue(Kinds(ONE) == Kinds({("k", "k"): "k"}))

    def test_never_equal_to_an_object_of_another_class(self):
        for kinds in (Kinds(PARITY), Kinds(ONE)):
            for other in odd_objects() + [dict(PARITY), ["even", "odd"], dict(ONE), ["k"], "k", kinds.table()]:
                if isinstance(other, Kinds):
                    continue
                self.assertIs(kinds == other, False)
                self.assertIs(other == kinds, False)
                self.assertIs(kinds != other, True)
                self.assertIs(other != kinds, True)

    def test_equal_to_itself_and_in_lists(self):
        kinds = Kinds(PARITY)
        self.assertTrue(kinds == kinds)
        self.assertTrue([Kinds(PARITY)] == [Kinds(turned(PARITY))])
        self.assertFalse([Kinds(PARITY)] == [Kinds(DULL)])


class Rows(Case):
    """[11]: put_all and opposite."""

    def test_all_short_rows(self):
        for table in MANY_TABLES:
            kinds = Kinds(table)
            for number in (1, 2, 3, 4):
                for row in rows_of(words_of(table), number):
                    self.same(put_all(kinds, row), put_together(table, row))

    def test_rows_of_sixty(self):
        for table in MANY_TABLES:
            words = words_of(table)
            row = [words[(at * at + at // 3) % len(words)] for at in range(60)]
            self.tells(put_together(table, row), put_all, Kinds(table), row)
            self.tells(put_together(table, row * 3), put_all, kinds=Kinds(table), row=row * 3)

    def test_the_order_counts(self):
        self.tells("a", put_all, Kinds(FIRST_STAYS), ["a", "b", "c"])
        self.tells("c", put_all, Kinds(LAST_STAYS), ["a", "b", "c"])

    def test_wrong_ones(self):
        rows = odd_objects() + no_rows_of_parity() + [[]]
        self.wrong_one_by_one(put_all, {"kinds": Kinds(PARITY), "row": ["odd"]},
                              {"kinds": (InvalidKinds, no_kinds()), "row": (InvalidKinds, rows)})

    def test_opposite(self):
        for table in MANY_TABLES + tuple(all_tables(3)):
            wanted = Kinds({(one, other): table[(other, one)] for one, other in table})
            self.tells(wanted, opposite, Kinds(table))
            self.tells(Kinds(table), opposite, opposite(kinds=Kinds(table)))
        self.assertTrue(opposite(Kinds(FIRST_STAYS)) == Kinds(LAST_STAYS))
        self.assertFalse(opposite(Kinds(FIRST_STAYS)) == Kinds(FIRST_STAYS))

    def test_opposite_puts_rows_that_are_turned_about(self):
        for table in MANY_TABLES:
            kinds = Kinds(table)
            for row in rows_of(words_of(table), 3):
                self.assertEqual(put_all(opposite(kinds), row[::-1]), put_all(kinds, row))

    def test_opposite_of_what_is_no_kinds(self):
        self.wrong_one_by_one(opposite, {"kinds": Kinds(PARITY)}, {"kinds": (InvalidKinds, no_kinds())})


class Powers(Case):
    """[12], [13]: own squares, powers, and how they come back."""

    def test_own_squares(self):
        for table in MANY_TABLES + tuple(all_tables(3)) + tuple(all_tables(4)[::11]):
            wanted = [word for word in words_of(table) if table[(word, word)] == word]
            self.assertTrue(wanted)
            self.tells(wanted, own_squares, Kinds(turned(table)))
        self.tells(["aa", "m", "mn", "zz"], own_squares, kinds=Kinds(CHAIN))

    def test_powers_of_all_small_tables(self):
        for table in MANY_TABLES + tuple(all_tables(2)) + tuple(all_tables(3)) + tuple(all_tables(4)[::5]):
            kinds = Kinds(table)
            for kind in words_of(table):
                powers = [None, kind]
                while len(powers) < 14:
                    powers.append(table[(powers[-1], kind)])
                for number in range(1, 14):
                    self.same(power(kinds, kind, number), powers[number])
                squares = [number for number in range(1, 14) if table[(powers[number],) * 2] == powers[number]]
                self.same(own_power(kinds, kind), squares[0])
                pairs = [(lead, cycle) for lead in range(1, 6) for cycle in range(1, 6)
                         if powers[lead] == powers[lead + cycle]]
                self.same(coming_back(kinds, kind), min(pairs))

    def test_numbers_of_thirty_digits(self):
        for table in MANY_TABLES:
            kinds = Kinds(table)
            for kind in words_of(table):
                for number in [10 ** 29, 10 ** 30 - 1, 10 ** 30 - 2, 10 ** 30 - 3, 123456789012345678901234567890]:
                    doubles = [kind]
                    while len(doubles) < number.bit_length():
                        doubles.append(table[(doubles[-1], doubles[-1])])
                    parts = [doubles[at] for at in range(len(doubles)) if number >> at & 1]
                    self.tells(put_together(table, parts), power, kinds, kind, number)

    def test_a_number_beyond_the_limit_is_no_error(self):
        self.tells("even", power, Kinds(PARITY), "odd", 10 ** 60)

    def test_leads_and_rounds_of_all_lengths(self):
        for lead, cycle in [(1, 1), (1, 2), (1, 3), (1, 4), (2, 1), (2, 2), (2, 3), (3, 1), (3, 2), (4, 1)]:
            table = once_again(lead, cycle)
            first = "q"
            self.tells((lead, cycle), coming_back, Kinds(table), first)
            self.tells((lead, cycle), coming_back, kind=first, kinds=Kinds(table))
            least = next(number for number in range(lead, 20) if number % cycle == 0)
            self.tells(least, own_power, Kinds(table), first)
            self.tells(least, own_power, kind=first, kinds=Kinds(table))
            self.tells(first if lead == 1 else power(Kinds(table), first, cycle + 1),
                       power, number=cycle + 1, kind=first, kinds=Kinds(table))

    def test_own_squares_come_back_at_once(self):
        for table in MANY_TABLES:
            for kind in own_squares(Kinds(table)):
                self.tells((1, 1), coming_back, Kinds(table), kind)
                self.tells(1, own_power, Kinds(table), kind)
                self.tells(kind, power, Kinds(table), kind, 10 ** 30 - 1)

    def test_wrong_ones(self):
        wrong = {"kinds": (InvalidKinds, no_kinds()), "kind": (InvalidKind, odd_objects() + [["odd"], ("odd",)]),
                 "number": (InvalidCount, no_counts(1))}
        good = {"kinds": Kinds(PARITY), "kind": "odd"}
        self.wrong_one_by_one(own_squares, {"kinds": Kinds(PARITY)}, wrong)
        self.wrong_one_by_one(own_power, good, wrong)
        self.wrong_one_by_one(coming_back, good, wrong)
        self.wrong_one_by_one(power, {**good, "number": 1}, wrong)


if __name__ == "__main__":
    unittest.main()
