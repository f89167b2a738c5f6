"""Marks of a log: points at which the state was kept; whether all that a fall does again may be done twice."""

from kindtwice.errors import InvalidCount, InvalidLog, InvalidMarks, InvalidPlace
from kindtwice.forms import is_ascending, is_count, is_word
from kindtwice.settings import check_log, check_setting, kinds_of_deeds
from kindtwice.stretches import stretch_kinds


def check_words(log):
    """Raise InvalidLog unless any object is a list, perhaps empty, of words."""
    if not isinstance(log, list) or not all([is_word(deed) for deed in log]):
        raise InvalidLog(log)


def are_marks(log, value):
    """Whether any object is an ascending list of points of a log, 0 among them."""
    check_words(log)
    if not isinstance(value, list) or not all([is_count(point) and point <= len(log) for point in value]):
        return False
    return len(value) > 0 and value[0] == 0 and is_ascending(value)


def check_marks(log, marks):
    """Raise InvalidMarks unless any object is marks of a log."""
    if not are_marks(log, marks):
        raise InvalidMarks(marks)


def _check_setting_and_log(setting, log):
    """Raise an error unless a setting and a log of it are passed."""
    check_setting(setting)
    check_log(setting, log)


def open_points(setting, log, marks):
    """All (mark, point) of a mark and a point that it reaches by a stretch of no kind in twice, ascending."""
    _check_setting_and_log(setting, log)
    check_marks(log, marks)
    twice = setting.twice()
    kinds = stretch_kinds(setting.kinds(), kinds_of_deeds(setting, log))
    ends = marks[1:] + [len(log) + 1]
    return [
        (mark, point) for mark, end in zip(marks, ends)
        for point in range(mark + 1, end) if kinds[(mark, point)] not in twice
    ]


def is_covered(setting, log, marks):
    """Whether the stretch from each mark to each point that it reaches has a kind in twice."""
    return len(open_points(setting, log, marks)) == 0


def _longest_jumps(setting, log):
    """For each point of a log the greatest number to which a jump from it is let."""
    twice = setting.twice()
    kinds = stretch_kinds(setting.kinds(), kinds_of_deeds(setting, log))
    longest = []
    for point in range(len(log) + 1):
        to = point + 1
        while to <= len(log) and kinds[(point, to)] in twice:
            to += 1
        longest.append(to)
    return longest


def reach(setting, log, point):
    """The greatest point behind a point at which the next mark may stand, None if none is needed."""
    _check_setting_and_log(setting, log)
    if not is_count(point) or point > len(log):
        raise InvalidPlace(point)
    longest = _longest_jumps(setting, log)[point]
    return longest if longest <= len(log) else None


def bounds(setting, log):
    """For each number from 0 to one beyond the log's end, the least number of let jumps that lead to it from 0."""
    _check_setting_and_log(setting, log)
    longest = _longest_jumps(setting, log)
    least = [0]
    for number in range(1, len(log) + 2):
        least.append(1 + min([least[ahead] for ahead in range(number) if longest[ahead] >= number]))
    return dict(enumerate(least))


def are_bounds(setting, log, value):
    """Whether any object leads from just these numbers to counts, 0 at 0, growing by at most 1 along each let jump."""
    _check_setting_and_log(setting, log)
    end = len(log) + 1
    if not isinstance(value, dict) or len(value) != end + 1:
        return False
    if not all([is_count(number) and number <= end and is_count(value[number]) for number in value]):
        return False
    longest = _longest_jumps(setting, log)
    return value[0] == 0 and all([
        value[to] <= value[number] + 1 for number in range(end) for to in range(number + 1, longest[number] + 1)
    ])


class Ways:
    """The ways by the fewest let jumps from each number to the end, one beyond the log's end.

    `jumps` tells how many these are, `many` how many such ways there are, `following` where they go next.
    """

    def __init__(self, setting, log):
        end = len(log) + 1
        longest = _longest_jumps(setting, log)
        self.jumps = {end: 0}
        self.many = {end: 1}
        self.following = {end: []}
        for number in reversed(range(end)):
            let = list(range(number + 1, longest[number] + 1))
            self.jumps[number] = 1 + min([self.jumps[to] for to in let])
            self.following[number] = [to for to in let if self.jumps[to] == self.jumps[number] - 1]
            self.many[number] = sum([self.many[to] for to in self.following[number]])


def fewest_marks(setting, log):
    """The least number of marks that cover a log."""
    _check_setting_and_log(setting, log)
    return Ways(setting, log).jumps[0]


def any_marks(setting, log):
    """Marks that cover a log, as few as can be."""
    return marks_at(setting, log, 0)


def are_fewest(setting, log, value):
    """Whether any object is marks that cover a log, as few as can be."""
    _check_setting_and_log(setting, log)
    return are_marks(log, value) and len(value) == fewest_marks(setting, log) and is_covered(setting, log, value)


def many_fewest(setting, log):
    """How many lists of the fewest marks cover a log."""
    _check_setting_and_log(setting, log)
    return Ways(setting, log).many[0]


def marks_at(setting, log, number):
    """The list of the fewest marks that cover a log with a number, from 0, in ascending order."""
    _check_setting_and_log(setting, log)
    ways = Ways(setting, log)
    if not is_count(number) or number >= ways.many[0]:
        raise InvalidCount(number)
    marks = [0]
    left = number
    # The end itself is no mark.
    while ways.jumps[marks[-1]] > 1:
        following = ways.following[marks[-1]]
        at = 0
        while left >= ways.many[following[at]]:
            left = left - ways.many[following[at]]
            at += 1
        marks.append(following[at])
    return marks


def sure_marks(setting, log):
    """The points, ascending, that are in all lists of the fewest marks that cover a log."""
    _check_setting_and_log(setting, log)
    ways = Ways(setting, log)
    sure = []
    passed = [0]
    # All these lists have one point each after so many jumps, so it is sure where there is no other one.
    while ways.jumps[passed[0]] > 0:
        if len(passed) == 1:
            sure.append(passed[0])
        passed = sorted({to for point in passed for to in ways.following[point]})
    return sure
