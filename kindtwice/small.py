"""Small settings: of all logs that are alike the least one, and all logs that are alike to one."""

from kindtwice.classes import classes_of
from kindtwice.errors import InvalidLog
from kindtwice.forms import check_count
from kindtwice.settings import check_log, check_setting


def _check_filled(setting, log):
    """Raise an error unless a setting and a log of it that is not empty are passed."""
    check_setting(setting)
    check_log(setting, log)
    if len(log) == 0:
        raise InvalidLog(log)


def least(setting, log):
    """Of the logs that are alike to a log and have the fewest deeds, the first one."""
    _check_filled(setting, log)
    classes = classes_of(setting)
    return classes.logs[classes.number_of(log)]


def least_logs(setting):
    """All least logs, by number of deeds, then ascending."""
    check_setting(setting)
    return classes_of(setting).logs[1:]


def many_unlike(setting):
    """How many least logs there are."""
    return len(least_logs(setting))


def _numbers_ahead(led, number, many):
    """For each number of deeds up to so many, the numbers from which just so many deeds may lead to a number."""
    ahead = [[number]]
    for _ in range(many):
        ahead.append([one for one, moves in enumerate(led) if any([to in ahead[-1] for to in moves.values()])])
    return ahead


def _logs_between(led, ahead, many):
    """All logs of so many deeds that lead from 0 through numbers from which the end can be reached, ascending."""
    rows = [([], 0)] if 0 in ahead[many] else []
    for rest in reversed(range(many)):
        rows = [
            (log + [deed], led[number][deed]) for log, number in rows
            for deed in led[number] if led[number][deed] in ahead[rest]
        ]
    return [log for log, _ in rows]


def alike_logs(setting, log, number):
    """All logs of at most so many deeds that are alike to a log, by number of deeds, then ascending."""
    _check_filled(setting, log)
    check_count(number, 0)
    classes = classes_of(setting)
    ahead = _numbers_ahead(classes.led, classes.number_of(log), number)
    return [one for many in range(number + 1) for one in _logs_between(classes.led, ahead, many)]


def coming_logs(setting, log):
    """The least (lead, round): a log done lead times is alike to it done lead and round times."""
    _check_filled(setting, log)
    classes = classes_of(setting)
    passed = []
    number = classes.number_of(log)
    while number not in passed:
        passed.append(number)
        number = classes.number_behind(number, log)
    lead = passed.index(number) + 1
    return lead, len(passed) + 1 - lead
