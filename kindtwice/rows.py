"""Rows of stretches: neighbouring stretches of a log that all have one own-square kind."""

from kindtwice.errors import InvalidPlace, InvalidRow, Refused
from kindtwice.forms import check_count, is_ascending, is_count
from kindtwice.kinds import check_kinds, is_list_of_kinds, own_squares
from kindtwice.settings import check_log, check_setting, kinds_of_deeds
from kindtwice.stretches import all_rows, stretch_kinds


def _are_points(many, value):
    """Whether any object is an ascending list of two points or more of a log of so many deeds."""
    if not isinstance(value, list) or len(value) < 2:
        return False
    return all([is_count(point) and point <= many for point in value]) and is_ascending(value)


def is_row(setting, log, value):
    """Whether any object is a row of stretches of a log."""
    check_setting(setting)
    check_log(setting, log)
    if not isinstance(value, tuple) or len(value) != 2:
        return False
    kind, points = value
    if kind not in own_squares(setting.kinds()) or not _are_points(len(log), points):
        return False
    stretches = stretch_kinds(setting.kinds(), kinds_of_deeds(setting, log))
    return all([stretches[(one, other)] == kind for one, other in zip(points, points[1:])])


def _longest_points(stretches, many, kind):
    """As many points as can be, the stretch from each to the next one of a kind; one at least."""
    longest = [[point] for point in range(many + 1)]
    for last in range(1, many + 1):
        for first in range(last):
            if stretches[(first, last)] == kind and len(longest[first]) >= len(longest[last]):
                longest[last] = longest[first] + [last]
    return max(longest, key=len)


def _longest_by_kind(kinds, row):
    """For each own-square kind, ascending, the points of a longest row of stretches of a row of kinds."""
    stretches = stretch_kinds(kinds, row)
    return {kind: _longest_points(stretches, len(row), kind) for kind in own_squares(kinds)}


def _most_in(kinds, row):
    """The greatest number of a row of stretches of a row of kinds."""
    longest = _longest_by_kind(kinds, row)
    return max([len(longest[kind]) - 1 for kind in longest])


def most_stretches(setting, log):
    """The greatest number of a row of stretches of a log, 0 if it has none."""
    check_setting(setting)
    check_log(setting, log)
    return _most_in(setting.kinds(), kinds_of_deeds(setting, log))


def longest_row(setting, log):
    """A row of stretches of a log that is as long as any, None if it has none."""
    check_setting(setting)
    check_log(setting, log)
    longest = _longest_by_kind(setting.kinds(), kinds_of_deeds(setting, log))
    best = max(list(longest), key=lambda kind: len(longest[kind]))
    return (best, longest[best]) if len(longest[best]) > 1 else None


def is_longest_row(setting, log, value):
    """Whether any object is a row of stretches of a log that is as long as any."""
    return is_row(setting, log, value) and len(value[1]) - 1 == most_stretches(setting, log)


def most_by_kind(setting, log):
    """The greatest number of a row of stretches with each own-square kind, these ascending."""
    check_setting(setting)
    check_log(setting, log)
    longest = _longest_by_kind(setting.kinds(), kinds_of_deeds(setting, log))
    return {kind: len(longest[kind]) - 1 for kind in longest}


def shortened(setting, log, row, first, last):
    """The log without the deeds between two of the points of a row of it, told by their positions."""
    if not is_row(setting, log, row):
        raise InvalidRow(row)
    _, points = row
    if not is_count(first) or first >= len(points):
        raise InvalidPlace(first)
    if not is_count(last) or not first < last < len(points):
        raise InvalidPlace(last)
    # Only while one stretch of the row is left does the log keep its kind.
    if last - first == len(points) - 1:
        raise Refused(row)
    return log[:points[first]] + log[points[last]:]


def sure_stretches(kinds, number):
    """The greatest number that a row of stretches has in every list of so many kinds."""
    return _most_in(kinds, scarce_row(kinds, number))


def scarce_row(kinds, number):
    """A list of so many kinds in which the longest row of stretches is as short as can be."""
    check_kinds(kinds)
    check_count(number, 1)
    return min(all_rows(kinds, number), key=lambda row: _most_in(kinds, row))


def is_scarce_row(kinds, number, value):
    """Whether any object is a list of so many kinds in which no row of stretches is longer than it has to be."""
    check_kinds(kinds)
    check_count(number, 1)
    if not is_list_of_kinds(kinds, value) or len(value) != number:
        return False
    return _most_in(kinds, value) == sure_stretches(kinds, number)
