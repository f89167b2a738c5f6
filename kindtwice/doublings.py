"""Doublings and halvings of logs: a stretch of a kind in twice once more directly behind itself, or once less."""

from kindtwice.errors import Refused
from kindtwice.settings import check_log, check_setting, check_two_logs, is_log, kind_of, kinds_of_deeds
from kindtwice.stretches import stretch_kinds


def _twice_stretches(setting, log):
    """The stretches of a log, told by their points, whose kinds are in twice."""
    twice = setting.twice()
    kinds = stretch_kinds(setting.kinds(), kinds_of_deeds(setting, log))
    return [stretch for stretch in kinds if kinds[stretch] in twice]


def _different(logs):
    """Each of some logs once, ascending."""
    return [list(log) for log in sorted({tuple(log) for log in logs})]


def doublings(setting, log):
    """All different doublings of a log, ascending."""
    check_setting(setting)
    check_log(setting, log)
    return _different([log[:last] + log[first:] for first, last in _twice_stretches(setting, log)])


def _halved(setting, log):
    """The stretches of a kind in twice, told by their points, that a log has once more directly behind them."""
    return [
        (first, last) for first, last in _twice_stretches(setting, log)
        if log[first:last] == log[last:last + last - first]
    ]


def halvings(setting, log):
    """All different logs of which a log is a doubling, ascending."""
    check_setting(setting)
    check_log(setting, log)
    return _different([log[:first] + log[last:] for first, last in _halved(setting, log)])


def is_doubling(setting, one, other):
    """Whether the other log is a doubling of the one."""
    check_two_logs(setting, one, other)
    more = len(other) - len(one)
    if not 0 < more <= len(one):
        return False
    twice = setting.twice()
    for first in range(len(one) - more + 1):
        last = first + more
        if one[:last] == other[:last] and one[first:] == other[last:] and kind_of(setting, one[first:last]) in twice:
            return True
    return False


def _are_logs(setting, value):
    """Whether any object is a list, not empty, of logs."""
    return isinstance(value, list) and len(value) > 0 and all([is_log(setting, log) for log in value])


def is_chain(setting, one, other, value):
    """Whether any object is a list of logs from the one to the other, each a doubling or a halving of that ahead."""
    check_two_logs(setting, one, other)
    if not _are_logs(setting, value) or value[0] != one or value[-1] != other:
        return False
    for ahead, log in zip(value, value[1:]):
        if not is_doubling(setting, ahead, log) and not is_doubling(setting, log, ahead):
            return False
    return True


def is_squeezed(setting, log):
    """Whether a log has no halving."""
    check_setting(setting)
    check_log(setting, log)
    return len(_halved(setting, log)) == 0


def squeezing(setting, log):
    """Logs from a log to a squeezed one, each but the first a halving of the one ahead."""
    check_setting(setting)
    check_log(setting, log)
    logs = [list(log)]
    halved = _halved(setting, log)
    while len(halved) > 0:
        # The longest stretch, so that few steps are needed.
        first, last = max(halved, key=lambda stretch: stretch[1] - stretch[0])
        logs.append(logs[-1][:first] + logs[-1][last:])
        halved = _halved(setting, logs[-1])
    return logs


def is_squeezing(setting, log, value):
    """Whether any object is logs from a log to a squeezed one, each but the first a halving of the one ahead."""
    check_setting(setting)
    check_log(setting, log)
    if not _are_logs(setting, value) or value[0] != log or not is_squeezed(setting, value[-1]):
        return False
    return all([is_doubling(setting, other, ahead) for ahead, other in zip(value, value[1:])])


def _squeezed_by_steps(setting, log):
    """For each number of halvings, from 0 on, as far as they go: the squeezed logs to which so many lead from a log."""
    check_setting(setting)
    check_log(setting, log)
    known = {}
    squeezed = []
    reached = [tuple(log)]
    while len(reached) > 0:
        for one in reached:
            if one not in known:
                known[one] = [tuple(other) for other in halvings(setting, list(one))]
        squeezed.append([one for one in reached if len(known[one]) == 0])
        reached = sorted({other for one in reached for other in known[one]})
    return squeezed


def all_squeezed(setting, log):
    """All squeezed logs to which halvings lead from a log, ascending."""
    return _different([one for squeezed in _squeezed_by_steps(setting, log) for one in squeezed])


def fewest_halvings(setting, log):
    """The least number of halvings that lead from a log to a squeezed one."""
    squeezed = _squeezed_by_steps(setting, log)
    return min([number for number in range(len(squeezed)) if len(squeezed[number]) > 0])


def most_halvings(setting, log):
    """The greatest number of halvings that lead from a log to a squeezed one."""
    return len(_squeezed_by_steps(setting, log)) - 1


def stays(setting, log):
    """What no doubling of a log changes: its kind, and its deeds by where they come first, and by where last."""
    check_setting(setting)
    check_log(setting, log)
    if len(log) == 0:
        raise Refused(log)
    return kind_of(setting, log), _by_first(log), _by_first(log[::-1])


def _by_first(log):
    """The deeds of a log, each once, by where they come first."""
    return list({deed: True for deed in log})
