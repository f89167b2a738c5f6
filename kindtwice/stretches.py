"""The kinds of all stretches of a row of kinds, and all rows of so many kinds."""


def stretch_kinds(kinds, row):
    """The kind of each stretch of a row of kinds, under its two points, these ascending."""
    table = kinds.table()
    found = {}
    for first in range(len(row)):
        kind = row[first]
        found[(first, first + 1)] = kind
        for last in range(first + 2, len(row) + 1):
            kind = table[(kind, row[last - 1])]
            found[(first, last)] = kind
    return found


def all_rows(kinds, number):
    """All rows of so many kinds, ascending."""
    rows = [[]]
    for _ in range(number):
        rows = [row + [kind] for row in rows for kind in kinds.words()]
    return rows
