"""Kinds: a finite table tells the kind of two things done behind one another."""

from kindtwice.errors import InvalidKind, InvalidKinds, InvalidTable
from kindtwice.forms import check_count, is_word


class Kinds:
    """Some words, the kinds, and a table free of brackets that puts two of them together."""

    def __init__(self, table):
        if not _is_table(table):
            raise InvalidTable(table)
        self._table = {pair: table[pair] for pair in sorted(table)}
        self._words = sorted({one for one, _ in table})

    def table(self):
        """The kind of each pair of kinds, pairs ascending."""
        return {pair: self._table[pair] for pair in self._table}

    def words(self):
        """The kinds, ascending."""
        return list(self._words)

    def put(self, one, other):
        """The kind of something of the one kind with something of the other kind behind it."""
        check_kind(self, one)
        check_kind(self, other)
        return self._table[(one, other)]

    def __eq__(self, other):
        return isinstance(other, Kinds) and self._table == other._table


def _is_table(table):
    """Whether any object tells of all pairs of some words one of these words, free of brackets."""
    if not isinstance(table, dict) or len(table) == 0:
        return False
    if not all([_is_pair(pair) for pair in table]):
        return False
    words = sorted({one for one, _ in table})
    return _is_full(table, words) and _is_free_of_brackets(table, words)


def _is_pair(value):
    return isinstance(value, tuple) and len(value) == 2 and is_word(value[0]) and is_word(value[1])


def _is_full(table, words):
    """Whether a dictionary leads from just the pairs of some words to some of these words."""
    if len(table) != len(words) * len(words):
        return False
    return all([(one, other) in table and table[(one, other)] in words for one in words for other in words])


def _is_free_of_brackets(table, words):
    return all([
        table[(table[(first, second)], third)] == table[(first, table[(second, third)])]
        for first in words for second in words for third in words
    ])


def is_kind(kinds, value):
    """Whether any object is a kind of a Kinds."""
    return isinstance(value, str) and value in kinds.words()


def is_list_of_kinds(kinds, value):
    """Whether any object is a list, perhaps empty, of kinds of a Kinds."""
    return isinstance(value, list) and all([is_kind(kinds, kind) for kind in value])


def check_kinds(kinds):
    """Raise InvalidKinds unless any object is a Kinds."""
    if not isinstance(kinds, Kinds):
        raise InvalidKinds(kinds)


def check_kind(kinds, kind):
    """Raise InvalidKind unless any object is a kind of a Kinds."""
    if not is_kind(kinds, kind):
        raise InvalidKind(kind)


def put_all(kinds, row):
    """The kind of a row of kinds, one at least, put together in order."""
    check_kinds(kinds)
    if not is_list_of_kinds(kinds, row) or len(row) == 0:
        raise InvalidKinds(row)
    table = kinds.table()
    whole = row[0]
    for kind in row[1:]:
        whole = table[(whole, kind)]
    return whole


def opposite(kinds):
    """The Kinds with the table turned about."""
    check_kinds(kinds)
    table = kinds.table()
    return Kinds({(one, other): table[(other, one)] for one, other in table})


def own_squares(kinds):
    """The kinds that put behind themselves are themselves, ascending."""
    check_kinds(kinds)
    return [kind for kind in kinds.words() if kinds.put(kind, kind) == kind]


def _different_powers(kinds, kind):
    """The list of a kind once, twice .. as far as they differ, and how many of them never come again."""
    powers = []
    following = kind
    while following not in powers:
        powers.append(following)
        following = kinds.put(following, kind)
    return powers, powers.index(following)


def power(kinds, kind, number):
    """The kind of so many times a kind."""
    check_kinds(kinds)
    check_kind(kinds, kind)
    check_count(number, 1)
    powers, ahead = _different_powers(kinds, kind)
    at = number - 1
    # A number may have 30 digits: only its place in the rounds matters.
    if at >= len(powers):
        at = ahead + (at - ahead) % (len(powers) - ahead)
    return powers[at]


def own_power(kinds, kind):
    """The least number of times, from 1 on, for which a kind becomes an own square."""
    check_kinds(kinds)
    check_kind(kinds, kind)
    powers, _ = _different_powers(kinds, kind)
    squares = own_squares(kinds)
    number = 1
    while powers[number - 1] not in squares:
        number += 1
    return number


def coming_back(kinds, kind):
    """The least (lead, round): lead times the kind are the same as lead and round times."""
    check_kinds(kinds)
    check_kind(kinds, kind)
    powers, ahead = _different_powers(kinds, kind)
    return ahead + 1, len(powers) - ahead


def _endings_behind(kinds, endings, kind):
    """The kinds of all stretches that end with a kind, made of those of the stretches that end ahead of it."""
    return sorted(set([kinds.put(ending, kind) for ending in endings] + [kind]))


def _bare_longer(kinds, rows):
    """All bare rows one kind longer than some, each in a tuple with the kinds of its endings; ascending."""
    squares = own_squares(kinds)
    longer = []
    for row, endings in rows:
        for kind in kinds.words():
            further = _endings_behind(kinds, endings, kind)
            if not any([ending in squares for ending in further]):
                longer.append((row + [kind], further))
    return longer


def is_bare(kinds, row):
    """Whether no stretch of a row of kinds, perhaps empty, is of an own-square kind."""
    check_kinds(kinds)
    if not is_list_of_kinds(kinds, row):
        raise InvalidKinds(row)
    squares = own_squares(kinds)
    endings = []
    for kind in row:
        endings = _endings_behind(kinds, endings, kind)
        if any([ending in squares for ending in endings]):
            return False
    return True


def bare_rows(kinds, number):
    """All bare rows of so many kinds, ascending."""
    check_kinds(kinds)
    check_count(number, 0)
    rows = [([], [])]
    done = 0
    # The number may be far greater than the length of any bare row.
    while done < number and len(rows) > 0:
        rows = _bare_longer(kinds, rows)
        done += 1
    return [row for row, _ in rows]


def _firsts_by_endings(rows):
    """The first of the rows that have the same kinds of endings, as these grow by the same kinds."""
    firsts = {}
    for row, endings in rows:
        if tuple(endings) not in firsts:
            firsts[tuple(endings)] = (row, endings)
    return list(firsts.values())


def longest_bare(kinds):
    """A bare row that is as long as any."""
    check_kinds(kinds)
    longest = []
    rows = [([], [])]
    while len(rows) > 0:
        longest = rows[0][0]
        rows = _firsts_by_endings(_bare_longer(kinds, rows))
    return longest


def most_bare(kinds):
    """The greatest length of a bare row."""
    return len(longest_bare(kinds))


def is_longest_bare(kinds, value):
    """Whether any object is a bare row as long as any."""
    check_kinds(kinds)
    if not is_list_of_kinds(kinds, value):
        return False
    return len(value) == most_bare(kinds) and is_bare(kinds, value)
