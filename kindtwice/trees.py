"""Trees of parts for logs: their kinds and heights, least trees, and low ones for every log."""

from kindtwice.errors import Refused
from kindtwice.forms import check_count, is_count
from kindtwice.kinds import check_kinds, is_list_of_kinds
from kindtwice.knots import deeds_of_knots, knots_of_tree, knots_within, turned_about
from kindtwice.measures import are_within_bounds, least_counts, least_of_all, lowest_tree
from kindtwice.roads import Road
from kindtwice.settings import check_log, check_setting, kinds_of_deeds
from kindtwice.stretches import all_rows


def is_tree(setting, value):
    """Whether any object is a tree of a setting."""
    check_setting(setting)
    return knots_within(setting, value) is not None


def log_of(setting, tree):
    """The log of a tree: its deeds from the first to the last one."""
    check_setting(setting)
    return deeds_of_knots(knots_of_tree(setting, tree))


def kind_by(setting, tree):
    """The kind of a tree: that of its log."""
    check_setting(setting)
    return knots_of_tree(setting, tree)[0].kind


def height_of(setting, tree):
    """The height of a tree: 0 of a deed, otherwise one more than the greatest of its parts."""
    check_setting(setting)
    return knots_of_tree(setting, tree)[0].height


def _check_full_log(setting, log):
    """Raise InvalidSetting, InvalidLog, then Refused unless a setting and a log of it that is not empty are passed."""
    check_setting(setting)
    check_log(setting, log)
    if len(log) == 0:
        raise Refused(log)


def _height_with_log(setting, log, value):
    """The height of any object that is a tree with this log, None of another one."""
    check_setting(setting)
    check_log(setting, log)
    knots = knots_within(setting, value)
    if knots is None or deeds_of_knots(knots) != log:
        return None
    return knots[0].height


def least_height(setting, log):
    """The least height of the trees with a log."""
    _check_full_log(setting, log)
    return least_of_all(setting.kinds(), kinds_of_deeds(setting, log))


def least_tree(setting, log):
    """A tree of least height with a log."""
    _check_full_log(setting, log)
    counts = least_counts(setting.kinds(), kinds_of_deeds(setting, log))
    return lowest_tree(counts, log, 0, len(log))


def is_least_tree(setting, log, value):
    """Whether any object is a tree of least height with a log."""
    height = _height_with_log(setting, log, value)
    return height is not None and height == least_height(setting, log)


def bound_of(kinds):
    """What low trees are at most high: three times the number of kinds, less one."""
    check_kinds(kinds)
    return 3 * len(kinds.words()) - 1


def low_tree(setting, log):
    """A tree with a log that is at most as high as bound_of tells, however long the log."""
    _check_full_log(setting, log)
    return Road(setting, log).tree_between(0, len(log))


def is_low_tree(setting, log, value):
    """Whether any object is a tree with a log, and at most as high as bound_of tells."""
    height = _height_with_log(setting, log, value)
    return height is not None and height <= bound_of(setting.kinds())


def pairs_alone(setting, log):
    """The least height of a tree with a log that has no run."""
    _check_full_log(setting, log)
    return (len(log) - 1).bit_length()


def heights(setting, log):
    """The heights of a log in which each count is as great as can be, by the two points, ascending."""
    _check_full_log(setting, log)
    told = least_counts(setting.kinds(), kinds_of_deeds(setting, log)).told
    return {points: told[points] for points in sorted(told)}


def _is_stretch(many, value):
    """Whether any object is a tuple of two points, the former below the latter, of a log of so many deeds."""
    if not isinstance(value, tuple) or len(value) != 2:
        return False
    first, last = value
    return is_count(first) and is_count(last) and first < last <= many


def are_heights(setting, log, value):
    """Whether any object is heights of a log."""
    check_setting(setting)
    check_log(setting, log)
    many = len(log)
    if many == 0 or not isinstance(value, dict) or len(value) != many * (many + 1) // 2:
        return False
    # So many different keys, each of them a stretch, are all of them.
    if not all([_is_stretch(many, points) and is_count(value[points]) for points in value]):
        return False
    return are_within_bounds(setting.kinds(), kinds_of_deeds(setting, log), value)


def greatest_height(kinds, number):
    """The greatest least height that a list of so many kinds has."""
    return least_of_all(kinds, tall_row(kinds, number))


def tall_row(kinds, number):
    """A list of so many kinds over which no tree is lower than has to be over some."""
    check_kinds(kinds)
    check_count(number, 1)
    return max(all_rows(kinds, number), key=lambda row: least_of_all(kinds, row))


def is_tall_row(kinds, number, value):
    """Whether any object is a list of so many kinds with the greatest least height."""
    check_kinds(kinds)
    check_count(number, 1)
    if not is_list_of_kinds(kinds, value) or len(value) != number:
        return False
    return least_of_all(kinds, value) == greatest_height(kinds, number)


def knots_of(setting, tree):
    """The tuples (first, last, height) of all knots of a tree, by first, then from the greatest last on."""
    check_setting(setting)
    return [(knot.first, knot.last, knot.height) for knot in knots_of_tree(setting, tree)]


def opposite_tree(setting, tree):
    """The tree whose parts, through and through, are turned about."""
    check_setting(setting)
    return turned_about(knots_of_tree(setting, tree))
