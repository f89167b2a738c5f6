"""The knots of a tree: the tree itself, its parts, their parts, down to the deeds."""

from kindtwice.errors import InvalidTree
from kindtwice.kinds import own_squares

PAIR = "pair"
RUN = "run"


class Knot:
    """A knot of a tree, with the points between which its log stands, its kind, its height and its parts' knots.

    Of a run `run` is its kind, otherwise None.
    """

    def __init__(self, value, first, kind, parts):
        self.value = value
        self.first = first
        self.last = parts[-1].last if parts else first + 1
        self.kind = kind
        self.height = 1 + max([part.height for part in parts]) if parts else 0
        self.parts = parts
        self.run = value[1] if parts and value[0] == RUN else None


def _parts_within(deeds, squares, value):
    """The parts of what may be a tree, of a deed none at all; None if it can be no tree."""
    if isinstance(value, str):
        return [] if value in deeds else None
    if not isinstance(value, tuple) or len(value) != 3:
        return None
    word, one, other = value
    if word == PAIR:
        return [one, other]
    if word == RUN and one in squares and isinstance(other, list) and len(other) > 1:
        return list(other)
    return None


def _spread(setting, value):
    """All that stands in a tree, each thing ahead of its parts, with how many these are; None if it can be none."""
    deeds = setting.deeds()
    squares = own_squares(setting.kinds())
    spread = []
    waiting = [value]
    # No recursion: nobody limits how deep any object goes.
    while len(waiting) > 0:
        one = waiting.pop()
        parts = _parts_within(deeds, squares, one)
        if parts is None:
            return None
        spread.append((one, len(parts)))
        waiting.extend(parts[::-1])
    return spread


def _kind_of_parts(table, parts):
    """The kind of some knots behind one another."""
    kind = parts[0].kind
    for part in parts[1:]:
        kind = table[(kind, part.kind)]
    return kind


def knots_within(setting, value):
    """The knots of a tree, each ahead of its parts, parts in order; None if any object is no tree."""
    spread = _spread(setting, value)
    if spread is None:
        return None
    table = setting.kinds().table()
    deeds = setting.deeds()
    point = len([one for one, many in spread if many == 0])
    knots = []
    waiting = []
    for one, many in reversed(spread):
        parts = [waiting.pop() for _ in range(many)]
        if many == 0:
            point -= 1
            knot = Knot(one, point, deeds[one], parts)
        else:
            knot = Knot(one, parts[0].first, _kind_of_parts(table, parts), parts)
        if knot.run is not None and any([part.kind != knot.run for part in parts]):
            return None
        waiting.append(knot)
        knots.append(knot)
    return knots[::-1]


def knots_of_tree(setting, tree):
    """The knots of a tree as knots_within tells them; InvalidTree unless it is one."""
    knots = knots_within(setting, tree)
    if knots is None:
        raise InvalidTree(tree)
    return knots


def deeds_of_knots(knots):
    """The log of a tree, told by its knots."""
    return [knot.value for knot in knots if not knot.parts]


def pair_of(one, other):
    """The tree of two trees."""
    return (PAIR, one, other)


def run_of(kind, parts):
    """The tree of two trees or more of an own-square kind."""
    return (RUN, kind, list(parts))


def _with_parts(knot, parts):
    """What a knot with parts is, with other parts."""
    return pair_of(parts[0], parts[1]) if knot.run is None else run_of(knot.run, parts)


def rebuilt(knots, log):
    """The tree of some knots with the deeds of another log at its places."""
    waiting = []
    for knot in reversed(knots):
        parts = [waiting.pop() for _ in knot.parts]
        waiting.append(_with_parts(knot, parts) if parts else log[knot.first])
    return waiting[0]


def turned_about(knots):
    """The tree of some knots with all parts, through and through, in the opposite order."""
    waiting = []
    for knot in reversed(knots):
        parts = [waiting.pop() for _ in knot.parts]
        waiting.append(_with_parts(knot, parts[::-1]) if parts else knot.value)
    return waiting[0]
