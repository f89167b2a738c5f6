"""Endless settings: some own-square kind is not in twice, and a store counts a deed without end."""

from kindtwice.errors import InvalidDeed, Refused
from kindtwice.forms import check_count, counting_words
from kindtwice.kinds import check_kind, own_squares
from kindtwice.settings import check_setting, with_twice
from kindtwice.stores import Store


def open_kinds(setting):
    """The own-square kinds that are not in twice, ascending."""
    check_setting(setting)
    twice = setting.twice()
    return [kind for kind in own_squares(setting.kinds()) if kind not in twice]


def is_endless(setting):
    """Whether some own-square kind is not in twice."""
    return len(open_kinds(setting)) > 0


def counting_deeds(setting):
    """The deeds, ascending, whose own kind is an own square that is not in twice."""
    kinds = open_kinds(setting)
    deeds = setting.deeds()
    return [deed for deed in deeds if deeds[deed] in kinds]


def counting_store(setting, deed, number):
    """The store that counts a counting deed up to a number, and leads everything else to an end."""
    check_setting(setting)
    deeds = list(setting.deeds())
    if deed not in deeds:
        raise InvalidDeed(deed)
    check_count(number, 0)
    if deed not in counting_deeds(setting):
        raise Refused(deed)
    states = counting_words(number + 2)
    end = states[-1]
    moves = {state: {other: end for other in deeds} for state in states}
    for state, following in zip(states[:-2], states[1:]):
        moves[state][deed] = following
    return Store(moves)


def closed(setting):
    """The setting with all own-square kinds in twice."""
    check_setting(setting)
    return with_twice(setting, own_squares(setting.kinds()))


def opened(setting, kind):
    """The setting without a kind in twice."""
    check_setting(setting)
    check_kind(setting.kinds(), kind)
    twice = setting.twice()
    if kind not in twice:
        raise Refused(kind)
    return with_twice(setting, [other for other in twice if other != kind])
