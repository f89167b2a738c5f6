"""Settings: deeds with their kinds, and the own-square kinds that may be done twice; their logs."""

from kindtwice.errors import InvalidDeeds, InvalidLog, InvalidMap, InvalidPlace, InvalidSetting, InvalidTwice, Refused
from kindtwice.forms import is_ascending, is_count, is_word
from kindtwice.kinds import check_kinds, is_kind, is_list_of_kinds, opposite, own_squares, put_all


class Setting:
    """A Kinds, the deeds with their kinds, and the own-square kinds that may be done twice."""

    def __init__(self, kinds, deeds, twice):
        check_kinds(kinds)
        if not _are_deeds(kinds, deeds):
            raise InvalidDeeds(deeds)
        if not _is_twice(kinds, twice):
            raise InvalidTwice(twice)
        self._kinds = kinds
        self._deeds = {deed: deeds[deed] for deed in sorted(deeds)}
        self._twice = list(twice)

    def kinds(self):
        """The Kinds."""
        return self._kinds

    def deeds(self):
        """The kind of each deed, deeds ascending."""
        return dict(self._deeds)

    def twice(self):
        """The kinds that may be done twice, ascending."""
        return list(self._twice)

    def __eq__(self, other):
        return (
            isinstance(other, Setting) and self._kinds == other._kinds
            and self._deeds == other._deeds and self._twice == other._twice
        )


def _are_deeds(kinds, deeds):
    """Whether any object leads from words to kinds, each kind that of one word at least."""
    if not isinstance(deeds, dict) or not all([is_word(deed) for deed in deeds]):
        return False
    if not all([is_kind(kinds, kind) for kind in deeds.values()]):
        return False
    return sorted(set(list(deeds.values()))) == kinds.words()


def _is_twice(kinds, twice):
    """Whether any object is an ascending list of own-square kinds."""
    if not is_list_of_kinds(kinds, twice) or not is_ascending(twice):
        return False
    squares = own_squares(kinds)
    return all([kind in squares for kind in twice])


def check_setting(setting):
    """Raise InvalidSetting unless any object is a Setting."""
    if not isinstance(setting, Setting):
        raise InvalidSetting(setting)


def check_log(setting, log):
    """Raise InvalidLog unless any object is a log of a setting."""
    if not is_log(setting, log):
        raise InvalidLog(log)


def check_two_logs(setting, one, other):
    """Raise an error unless a setting and two logs of it are passed."""
    check_setting(setting)
    check_log(setting, one)
    check_log(setting, other)


def check_points(log, first, last):
    """Raise InvalidPlace unless two objects are a point of a log and a later one, one by one."""
    if not is_count(first) or first >= len(log):
        raise InvalidPlace(first)
    if not is_count(last) or not first < last <= len(log):
        raise InvalidPlace(last)


def kinds_of_deeds(setting, log):
    """The list of the kinds of the deeds of a log, one by one."""
    deeds = setting.deeds()
    return [deeds[deed] for deed in log]


def is_log(setting, value):
    """Whether any object is a list, perhaps empty, of deeds of a setting."""
    check_setting(setting)
    deeds = setting.deeds()
    return isinstance(value, list) and all([isinstance(deed, str) and deed in deeds for deed in value])


def kind_of(setting, log):
    """The kind of a log that is not empty."""
    check_setting(setting)
    check_log(setting, log)
    if len(log) == 0:
        raise Refused(log)
    return put_all(setting.kinds(), kinds_of_deeds(setting, log))


def kind_between(setting, log, first, last):
    """The kind of the stretch from one point of a log to a later one."""
    check_setting(setting)
    check_log(setting, log)
    check_points(log, first, last)
    return kind_of(setting, log[first:last])


def many_by_kind(setting, log):
    """How many stretches of a log have each kind, all kinds ascending."""
    check_setting(setting)
    check_log(setting, log)
    kinds = setting.kinds()
    many = {kind: 0 for kind in kinds.words()}
    ending = dict(many)
    for kind in kinds_of_deeds(setting, log):
        ending = _ending_with(kinds, ending, kind)
        for word in ending:
            many[word] += ending[word]
    return many


def _ending_with(kinds, ending, kind):
    """How many stretches that end behind one more deed have each kind; of those ahead of it, it was passed."""
    further = {word: 0 for word in ending}
    for word in ending:
        further[kinds.put(word, kind)] += ending[word]
    further[kind] += 1
    return further


def redo_points(setting, log):
    """The points, but the last one, from which a log's end may be done again, ascending."""
    check_setting(setting)
    check_log(setting, log)
    kinds = setting.kinds()
    twice = setting.twice()
    row = kinds_of_deeds(setting, log)
    points = []
    end = None
    for point in reversed(range(len(row))):
        end = row[point] if end is None else kinds.put(row[point], end)
        if end in twice:
            points.append(point)
    return points[::-1]


def may_redo(setting, log, first, last):
    """Whether the stretch from one point of a log to a later one has a kind that may be done twice."""
    return kind_between(setting, log, first, last) in setting.twice()


def with_twice(setting, twice):
    """The setting with other kinds that may be done twice."""
    check_setting(setting)
    return Setting(setting.kinds(), setting.deeds(), twice)


def opposite_setting(setting):
    """The setting with the Kinds turned about."""
    check_setting(setting)
    return Setting(opposite(setting.kinds()), setting.deeds(), setting.twice())


def renamed(setting, sent):
    """The setting whose deeds are called as a dictionary tells."""
    check_setting(setting)
    deeds = setting.deeds()
    if not _is_naming(deeds, sent):
        raise InvalidMap(sent)
    return Setting(setting.kinds(), {sent[deed]: deeds[deed] for deed in deeds}, setting.twice())


def _is_naming(deeds, sent):
    """Whether any object is a dictionary from just the deeds to different words."""
    if not isinstance(sent, dict) or len(sent) != len(deeds):
        return False
    if not all([deed in sent and is_word(sent[deed]) for deed in deeds]):
        return False
    return len(set(list(sent.values()))) == len(sent)
