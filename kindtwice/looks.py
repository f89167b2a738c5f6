"""Looks at stretches by a tree: the kind of any stretch is put together of those of few knots."""

from kindtwice.errors import InvalidDeed, InvalidPlace, Refused
from kindtwice.forms import is_count
from kindtwice.knots import deeds_of_knots, knots_of_tree, knots_within, rebuilt
from kindtwice.settings import check_points, check_setting


def _knots_for_points(setting, tree, first, last):
    """The knots of a tree; an error unless they, and a stretch of the tree's log, are right."""
    check_setting(setting)
    knots = knots_of_tree(setting, tree)
    check_points(deeds_of_knots(knots), first, last)
    return knots


def _single_looks(knots):
    """The kind of all that one look may tell, by its two points: of knots, and of neighbouring parts of a run."""
    found = {}
    for knot in knots:
        found[(knot.first, knot.last)] = knot.kind
        if knot.run is not None:
            points = [part.first for part in knot.parts] + [knot.last]
            for at, first in enumerate(points):
                for last in points[at + 1:]:
                    found[(first, last)] = knot.run
    return {stretch: found[stretch] for stretch in sorted(found)}


def _is_look(single, value):
    """Whether any object is a tuple of two points and the kind that one look tells there."""
    if not isinstance(value, tuple) or len(value) != 3:
        return False
    first, last, kind = value
    if not is_count(first) or not is_count(last):
        return False
    return (first, last) in single and single[(first, last)] == kind


def are_looks(setting, tree, first, last, value):
    """Whether any object is looks at a stretch."""
    knots = _knots_for_points(setting, tree, first, last)
    if not isinstance(value, list) or len(value) == 0:
        return False
    single = _single_looks(knots)
    if not all([_is_look(single, look) for look in value]):
        return False
    if value[0][0] != first or value[-1][1] != last:
        return False
    return all([one[1] == other[0] for one, other in zip(value, value[1:])])


def _least_from(single, first):
    """The fewest looks at the stretch from a point to each later one, by the latter; none at all to itself."""
    looks = {first: []}
    # By ascending first points: what ends at a point is told before what begins there.
    for one, other in single:
        if one in looks and (other not in looks or len(looks[one]) + 1 < len(looks[other])):
            looks[other] = looks[one] + [(one, other, single[(one, other)])]
    return looks


def least_looks(setting, tree, first, last):
    """Looks at a stretch with the fewest tuples."""
    knots = _knots_for_points(setting, tree, first, last)
    return _least_from(_single_looks(knots), first)[last]


def fewest_looks(setting, tree, first, last):
    """The least number of tuples of looks at a stretch."""
    return len(least_looks(setting, tree, first, last))


def are_least_looks(setting, tree, first, last, value):
    """Whether any object is looks at a stretch with the fewest tuples."""
    if not are_looks(setting, tree, first, last, value):
        return False
    return len(value) == fewest_looks(setting, tree, first, last)


def _fewest_of_all(setting, tree):
    """How many looks each stretch of a tree's log needs."""
    check_setting(setting)
    knots = knots_of_tree(setting, tree)
    single = _single_looks(knots)
    fewest = {}
    for first in range(knots[0].last):
        looks = _least_from(single, first)
        for last in range(first + 1, knots[0].last + 1):
            fewest[(first, last)] = len(looks[last])
    return fewest


def most_looks(setting, tree):
    """The greatest number of looks that a stretch of a tree's log needs."""
    return max(_fewest_of_all(setting, tree).values())


def hardest_stretch(setting, tree):
    """A stretch, told by its points, that needs as many looks as any."""
    fewest = _fewest_of_all(setting, tree)
    return max(list(fewest), key=lambda stretch: fewest[stretch])


def is_hardest_stretch(setting, tree, value):
    """Whether any object is a stretch, told by its points, that needs as many looks as any."""
    fewest = _fewest_of_all(setting, tree)
    if not isinstance(value, tuple) or len(value) != 2 or not is_count(value[0]) or not is_count(value[1]):
        return False
    return value in fewest and fewest[value] == max(fewest.values())


def _knots_for_place(setting, tree, place):
    """The knots of a tree; an error unless they, and a place of the tree's log, are right."""
    check_setting(setting)
    knots = knots_of_tree(setting, tree)
    if not is_count(place) or place >= knots[0].last:
        raise InvalidPlace(place)
    return knots


def knots_with(setting, tree, place):
    """The tuples (first, last, height) of the knots whose stretch has a place, each ahead of its parts."""
    knots = _knots_for_place(setting, tree, place)
    return [(knot.first, knot.last, knot.height) for knot in knots if knot.first <= place < knot.last]


def _with_deed_at(knots, place, deed):
    """The tree of some knots with another deed at a place, whether or not it is one."""
    log = deeds_of_knots(knots)
    return rebuilt(knots, log[:place] + [deed] + log[place + 1:])


def fitting(setting, tree, place):
    """The deeds that may stand at a place of a tree, ascending."""
    knots = _knots_for_place(setting, tree, place)
    deeds = list(setting.deeds())
    return [deed for deed in deeds if knots_within(setting, _with_deed_at(knots, place, deed)) is not None]


def with_deed(setting, tree, place, deed):
    """The tree with another deed at a place."""
    knots = _knots_for_place(setting, tree, place)
    if not isinstance(deed, str) or deed not in setting.deeds():
        raise InvalidDeed(deed)
    other = _with_deed_at(knots, place, deed)
    if knots_within(setting, other) is None:
        raise Refused(deed)
    return other
