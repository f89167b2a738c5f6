"""A road to low trees: blocks of a log whose kinds are mates of its own, and runs between gaps of one mark."""

from kindtwice.kinds import own_squares
from kindtwice.knots import pair_of, run_of


def _held_by(table, words, kind):
    """The kinds that are held by a kind: those of which it is made by putting kinds ahead, behind, or both."""
    held = []
    for other in words:
        made = [other] + [table[(ahead, other)] for ahead in words]
        made = made + [table[(one, behind)] for one in made for behind in words]
        if kind in made:
            held.append(other)
    return held


def mates_of(kinds):
    """For each kind those that hold it and are held by it, itself among them."""
    words = kinds.words()
    table = kinds.table()
    held = {kind: _held_by(table, words, kind) for kind in words}
    return {kind: [other for other in held[kind] if kind in held[other]] for kind in words}


class Road:
    """A log, with its kinds, on the way to a low tree."""

    def __init__(self, setting, log):
        kinds = setting.kinds()
        deeds = setting.deeds()
        self.log = log
        self.row = [deeds[deed] for deed in log]
        self.put_by = kinds.table()
        self.mates = mates_of(kinds)
        self.squares = own_squares(kinds)

    def kind_of_row(self, row):
        """The kind of a row of kinds, one at least."""
        kind = row[0]
        for other in row[1:]:
            kind = self.put_by[(kind, other)]
        return kind

    def block_points(self, first, last):
        """The point at which the first block of a stretch begins, then those at which its blocks end."""
        mates = self.mates[self.kind_of_row(self.row[first:last])]
        points = [first]
        kind = None
        for place in range(first, last):
            kind = self.row[place] if kind is None else self.put_by[(kind, self.row[place])]
            if kind in mates:
                points.append(place + 1)
                kind = None
        return points

    def tree_of_block(self, first, last):
        """The tree of a block: its last deed behind what no mate is, if there is more than that deed."""
        deed = self.log[last - 1]
        return deed if last - first == 1 else pair_of(self.tree_between(first, last - 1), deed)

    def tree_between(self, first, last):
        """The tree of a stretch of the log."""
        points = self.block_points(first, last)
        blocks = Blocks(self, points)
        rest = None if points[-1] == last else self.tree_between(points[-1], last)
        return blocks.tree_with(rest)


class Blocks:
    """The blocks of a stretch, their kinds and trees, and the mark of the gap ahead of each."""

    def __init__(self, road, points):
        ends = list(zip(points, points[1:]))
        self.row = [road.kind_of_row(road.row[first:last]) for first, last in ends]
        self.trees = [road.tree_of_block(first, last) for first, last in ends]
        self.signs = self._signs(road) if len(ends) > 1 else []

    def _signs(self, road):
        squares = [kind for kind in road.mates[self.row[0]] if kind in road.squares]
        start = [kind for kind in squares if road.put_by[(kind, self.row[0])] == self.row[0]][0]
        signs = [(start, start)]
        ahead = self.row[0]
        for one, other in zip(self.row, self.row[1:]):
            between = [
                kind for kind in squares
                if road.put_by[(one, kind)] == one and road.put_by[(kind, other)] == other
            ][0]
            signs.append((ahead, between))
            ahead = road.put_by[(ahead, other)]
        return signs

    def tree_with(self, rest):
        """The tree of all blocks, and of the tree of a rest behind them unless it is None."""
        if len(self.trees) == 1:
            return self.trees[0] if rest is None else pair_of(self.trees[0], rest)
        gaps = [gap for gap in range(len(self.trees)) if self.signs[gap] == self.signs[0]]
        behind = self.tree_among(gaps[-1], len(self.trees))
        if rest is not None:
            behind = pair_of(behind, rest)
        return behind if len(gaps) == 1 else pair_of(self.tree_of_run(gaps), behind)

    def tree_among(self, first, last):
        """The tree of the blocks from one gap to another; no gap between has the mark that these were cut at."""
        if last - first == 1:
            return self.trees[first]
        mark = self.signs[first + 1]
        gaps = [gap for gap in range(first + 1, last) if self.signs[gap] == mark]
        tree = self.tree_among(first, gaps[0])
        if len(gaps) > 1:
            tree = pair_of(tree, self.tree_of_run(gaps))
        return pair_of(tree, self.tree_among(gaps[-1], last))

    def tree_of_run(self, gaps):
        """The run of what stands between two gaps or more of one mark; one stretch alone stands for itself."""
        parts = [self.tree_among(one, other) for one, other in zip(gaps, gaps[1:])]
        return parts[0] if len(parts) == 1 else run_of(self.signs[gaps[0]][1], parts)
