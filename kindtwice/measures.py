"""Least heights of trees over the stretches of a row of kinds, told from shorter stretches to longer ones."""

from kindtwice.kinds import own_squares
from kindtwice.knots import pair_of, run_of
from kindtwice.stretches import stretch_kinds


class Counts:
    """Counts of stretches of a row of kinds, taken one by one, shorter stretches ahead of longer ones.

    `told` is the count of each stretch taken, `lightest` the least count that one of its rows of one stretch or
    more, of its own kind, has as its greatest.
    """

    def __init__(self, kinds, row):
        self.stretches = stretch_kinds(kinds, row)
        self.squares = own_squares(kinds)
        self.told = {}
        self.lightest = {}

    def lightest_row(self, first, last):
        """As `lightest`, of rows of two stretches or more; None where there is none of an own-square kind."""
        kind = self.stretches[(first, last)]
        if kind not in self.squares:
            return None
        greatest = [
            max(self.lightest[(first, cut)], self.told[(cut, last)]) for cut in range(first + 1, last)
            if self.stretches[(first, cut)] == kind and self.stretches[(cut, last)] == kind
        ]
        return min(greatest, default=None)

    def bound(self, first, last):
        """The greatest count that a stretch may have, by those of shorter ones."""
        if last - first == 1:
            return 0
        least = min([max(self.told[(first, cut)], self.told[(cut, last)]) for cut in range(first + 1, last)])
        lightest = self.lightest_row(first, last)
        return 1 + (least if lightest is None else min(least, lightest))

    def take(self, first, last, count):
        """Note the count of a stretch."""
        lightest = self.lightest_row(first, last)
        self.told[(first, last)] = count
        self.lightest[(first, last)] = count if lightest is None else min(count, lightest)


def shorter_first(many):
    """The two points of each stretch of a row of so many kinds, shorter stretches ahead of longer ones."""
    return [(first, first + length) for length in range(1, many + 1) for first in range(many - length + 1)]


def least_counts(kinds, row):
    """Counts of all stretches of a row of kinds: the least heights of trees over them."""
    counts = Counts(kinds, row)
    for first, last in shorter_first(len(row)):
        counts.take(first, last, counts.bound(first, last))
    return counts


def least_of_all(kinds, row):
    """The least height of a tree over a row of kinds that is not empty."""
    return least_counts(kinds, row).told[(0, len(row))]


def are_within_bounds(kinds, row, told):
    """Whether each of the counts of all stretches of a row of kinds is no more than it may be."""
    counts = Counts(kinds, row)
    for first, last in shorter_first(len(row)):
        if told[(first, last)] > counts.bound(first, last):
            return False
        counts.take(first, last, told[(first, last)])
    return True


def _run_cuts(counts, first, last, limit):
    """The points of a row of two stretches or more that cut a stretch, none higher than a limit."""
    kind = counts.stretches[(first, last)]
    points = [last]
    # The whole stretch itself is higher than the limit, so it is cut once at least.
    while counts.told[(first, points[-1])] > limit:
        behind = points[-1]
        points.append([
            cut for cut in range(first + 1, behind)
            if counts.stretches[(first, cut)] == kind and counts.stretches[(cut, behind)] == kind
            and counts.lightest[(first, cut)] <= limit and counts.told[(cut, behind)] <= limit
        ][0])
    return [first] + points[::-1]


def lowest_tree(counts, log, first, last):
    """A tree of least height over a stretch of a log, told by the least counts."""
    if last - first == 1:
        return log[first]
    limit = counts.told[(first, last)] - 1
    for cut in range(first + 1, last):
        if max(counts.told[(first, cut)], counts.told[(cut, last)]) <= limit:
            return pair_of(lowest_tree(counts, log, first, cut), lowest_tree(counts, log, cut, last))
    points = _run_cuts(counts, first, last, limit)
    parts = [lowest_tree(counts, log, one, other) for one, other in zip(points, points[1:])]
    return run_of(counts.stretches[(first, last)], parts)
