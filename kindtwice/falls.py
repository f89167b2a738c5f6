"""Days of falls: at each the log is begun again at the last mark; what was done then, and a chain back to the log."""

from kindtwice.classes import classes_of
from kindtwice.doublings import is_doubling
from kindtwice.errors import InvalidFalls, Refused
from kindtwice.forms import check_count, is_count
from kindtwice.marks import check_marks, check_words, is_covered
from kindtwice.settings import check_log, check_setting, is_log


def last_mark(marks, point):
    """The last mark that is at most a point."""
    return max([mark for mark in marks if mark <= point])


def _check_day(log, marks, falls):
    """Raise an error unless a list of words, marks of it and a day of these are passed."""
    if not is_day(log, marks, falls):
        raise InvalidFalls(falls)


def is_day(log, marks, value):
    """Whether any object is a list of points at which falls may come one after the other."""
    check_words(log)
    check_marks(log, marks)
    if not isinstance(value, list):
        return False
    begun = 0
    for point in value:
        if not is_count(point) or not begun <= point <= len(log):
            return False
        begun = last_mark(marks, point)
    return True


def begins(log, marks, falls):
    """The mark at which the log is begun again, for each fall."""
    _check_day(log, marks, falls)
    return [last_mark(marks, point) for point in falls]


def done_log(log, marks, falls):
    """All deeds that are done on a day, in their order."""
    begun = [0] + begins(log, marks, falls)
    done = []
    for first, last in zip(begun, falls + [len(log)]):
        done = done + log[first:last]
    return done


def many_done(log, marks, falls):
    """How many deeds are done on a day."""
    return len(done_log(log, marks, falls))


def _check_all(setting, log, marks, falls):
    """Raise an error unless a setting, a log of it, marks of the log and a day of these are passed."""
    check_setting(setting)
    check_log(setting, log)
    _check_day(log, marks, falls)


def _redoing(marks, falls):
    """The positions of the falls whose mark is below their point."""
    return [at for at, point in enumerate(falls) if last_mark(marks, point) < point]


def chain_back(setting, log, marks, falls):
    """Logs from the done one to the log itself, each but the first a halving of that ahead, one for each fall."""
    _check_all(setting, log, marks, falls)
    if not is_covered(setting, log, marks):
        raise Refused(marks)
    # Without its last fall that redoes, a day has done a halving of what it has done.
    shorter = [falls[:at] for at in _redoing(marks, falls)[::-1]]
    return [done_log(log, marks, day) for day in [falls] + shorter]


def is_chain_back(setting, log, marks, falls, value):
    """Whether any object is such logs, at one step for each fall that redoes; whether or not the marks cover."""
    _check_all(setting, log, marks, falls)
    if not isinstance(value, list) or not all([is_log(setting, one) for one in value]):
        return False
    if len(value) != len(_redoing(marks, falls)) + 1:
        return False
    if value[0] != done_log(log, marks, falls) or value[-1] != log:
        return False
    return all([is_doubling(setting, other, ahead) for ahead, other in zip(value, value[1:])])


def harmful_falls(setting, log, marks):
    """The points, ascending, whose fall alone makes a log that is not alike to the log."""
    check_setting(setting)
    check_log(setting, log)
    check_marks(log, marks)
    classes = classes_of(setting)
    meant = classes.number_of(log)
    return [
        point for point in range(len(log) + 1) if classes.number_of(done_log(log, marks, [point])) != meant
    ]


def is_harmless(setting, log, marks):
    """Whether no single fall makes a log that is not alike to the log."""
    return len(harmful_falls(setting, log, marks)) == 0


def _check_number(log, marks, number):
    """Raise an error unless a list of words, marks of it and a count are passed."""
    check_words(log)
    check_marks(log, marks)
    check_count(number, 0)


def many_days(log, marks, number):
    """How many days with so many falls there are."""
    _check_number(log, marks, number)
    last = {point: last_mark(marks, point) for point in range(len(log) + 1)}
    # For each mark at which the log is begun, in how many ways so many falls may follow.
    many = {mark: 1 for mark in marks}
    for _ in range(number):
        many = {mark: sum([many[last[point]] for point in range(mark, len(log) + 1)]) for mark in marks}
    return many[0]


def costliest(log, marks, number):
    """A day with so many falls on which as many deeds are done as can be."""
    _check_number(log, marks, number)
    last = {point: last_mark(marks, point) for point in range(len(log) + 1)}
    # For each mark at which the log is begun, the most deeds that follow, and the falls for which they do.
    best = {mark: (len(log) - mark, []) for mark in marks}
    for _ in range(number):
        best = {
            mark: max([
                (point - mark + best[last[point]][0], [point] + best[last[point]][1])
                for point in range(mark, len(log) + 1)
            ]) for mark in marks
        }
    return best[0][1]


def is_costliest(log, marks, number, value):
    """Whether any object is a day with so many falls on which as many deeds are done as can be."""
    _check_number(log, marks, number)
    if not is_day(log, marks, value) or len(value) != number:
        return False
    return many_done(log, marks, value) == many_done(log, marks, costliest(log, marks, number))
