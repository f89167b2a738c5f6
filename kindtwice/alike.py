"""Alike logs of plain settings, told by their steps; differences of logs that are not alike."""

from kindtwice.endless import is_endless
from kindtwice.errors import Refused
from kindtwice.kinds import own_squares
from kindtwice.settings import check_log, check_setting, check_two_logs

AHEAD = "ahead"
BEHIND = "behind"


def _is_group(kinds):
    """Whether each kind put behind all kinds, and with all kinds put behind it, tells all kinds."""
    words = kinds.words()
    table = kinds.table()
    return all([
        sorted({table[(other, kind)] for other in words}) == words
        and sorted({table[(kind, other)] for other in words}) == words
        for kind in words
    ])


def is_plain(setting):
    """Whether a setting is not endless, and its kinds are all own squares or a group."""
    check_setting(setting)
    kinds = setting.kinds()
    return not is_endless(setting) and (own_squares(kinds) == kinds.words() or _is_group(kinds))


def _check_plain(setting):
    """Raise Refused unless a setting is plain."""
    if not is_plain(setting):
        raise Refused(setting)


def _steps_of(setting, log):
    """The steps of a log of a plain setting."""
    kinds = setting.kinds()
    squares = own_squares(kinds)
    if squares == kinds.words():
        return list(log)
    deeds = setting.deeds()
    table = kinds.table()
    # In a group one kind alone is its own square, and leaves all others as they are.
    kind = squares[0]
    told = []
    for deed in log:
        told.append((kind, deed))
        kind = table[(kind, deeds[deed])]
    return told


def steps(setting, log):
    """The steps of a log of a plain setting: its deeds, of a group each with the kind of all deeds ahead."""
    check_setting(setting)
    check_log(setting, log)
    _check_plain(setting)
    return _steps_of(setting, log)


def _last_new(row, first, last):
    """The place at which the last new step of a stretch of a list of steps comes."""
    found = {}
    for place in range(first, last):
        found.setdefault(row[place], place)
    return max(found.values())


def _last_new_from_end(row, first, last):
    """The place at which, from its end, the last new step of a stretch of a list of steps comes."""
    found = {}
    for place in range(first, last):
        found[row[place]] = place
    return min(found.values())


def whole_start(setting, log):
    """The number of deeds of the shortest beginning of a log that has all its steps."""
    row = steps(setting, log)
    return _last_new(row, 0, len(row)) + 1 if row else 0


def whole_end(setting, log):
    """The number of deeds of the shortest end of a log that has all its steps."""
    row = steps(setting, log)
    return len(row) - _last_new_from_end(row, 0, len(row)) if row else 0


def _turned_to(row, stretch, turn):
    """What is ahead of a stretch, not empty, of a list of steps, or behind it, as a stretch."""
    first, last = stretch
    if turn == AHEAD:
        return first, _last_new(row, first, last)
    return _last_new_from_end(row, first, last) + 1, last


class Numbers:
    """Numbers of lists of steps: just those that are same have one number, 0 that of the empty ones."""

    def __init__(self):
        self.known = {}

    def number_all(self, row):
        """The numbers of a list of steps, and of all stretches of it to which one comes from it by turns."""
        told = {}
        self.number_stretch(row, (0, len(row)), told)
        return told

    def number_stretch(self, row, stretch, told):
        """The number of a stretch of a list of steps, noted in what is told of the list."""
        first, last = stretch
        # The same stretch is come to on many ways.
        if stretch not in told and first == last:
            told[stretch] = 0
        if stretch not in told:
            ahead = _turned_to(row, stretch, AHEAD)
            beyond = _turned_to(row, stretch, BEHIND)
            key = (
                row[ahead[1]], self.number_stretch(row, ahead, told),
                row[beyond[0] - 1], self.number_stretch(row, beyond, told),
            )
            told[stretch] = self.known.setdefault(key, len(self.known) + 1)
        return told[stretch]


def _step_in_one(one, other):
    """A step that is in just one of two lists of steps, None if there is none."""
    alone = [step for step in one if step not in other] + [step for step in other if step not in one]
    return alone[0] if alone else None


def difference(setting, one, other):
    """Turns to what is ahead and behind, and a step that is then in just one of two logs; None if they are alike."""
    check_two_logs(setting, one, other)
    _check_plain(setting)
    row = _steps_of(setting, one)
    beside = _steps_of(setting, other)
    numbers = Numbers()
    told = numbers.number_all(row)
    told_beside = numbers.number_all(beside)
    here = (0, len(row))
    there = (0, len(beside))
    if told[here] == told_beside[there]:
        return None
    turns = []
    step = _step_in_one(row, beside)
    # With the same steps in both, what is ahead is not same or what is behind is not.
    while step is None:
        ahead = told[_turned_to(row, here, AHEAD)] != told_beside[_turned_to(beside, there, AHEAD)]
        turns.append(AHEAD if ahead else BEHIND)
        here = _turned_to(row, here, turns[-1])
        there = _turned_to(beside, there, turns[-1])
        step = _step_in_one(row[here[0]:here[1]], beside[there[0]:there[1]])
    return turns, step


def are_alike(setting, one, other):
    """Whether two logs of a plain setting are alike."""
    return difference(setting, one, other) is None


def is_difference(setting, one, other, value):
    """Whether any object is turns, and a step that is then in just one of two logs of a plain setting."""
    check_two_logs(setting, one, other)
    if not is_plain(setting) or not isinstance(value, tuple) or len(value) != 2 or not isinstance(value[0], list):
        return False
    turns, step = value
    row = _steps_of(setting, one)
    beside = _steps_of(setting, other)
    here = (0, len(row))
    there = (0, len(beside))
    for turn in turns:
        # An empty list has no turn.
        if turn not in (AHEAD, BEHIND) or here[0] == here[1] or there[0] == there[1]:
            return False
        here = _turned_to(row, here, turn)
        there = _turned_to(beside, there, turn)
    return (step in row[here[0]:here[1]]) != (step in beside[there[0]:there[1]])
