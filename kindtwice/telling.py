"""The store that tells all unlike logs of a small setting apart, and stores that tell two of them apart."""

from kindtwice.classes import classes_of
from kindtwice.forms import counting_words
from kindtwice.settings import check_setting, check_two_logs
from kindtwice.stores import Store, behind, is_typed


def _store_led(led):
    """The store whose states are the words a, b, .. for numbers that deeds lead to numbers."""
    words = counting_words(len(led))
    return Store({word: {deed: words[moves[deed]] for deed in moves} for word, moves in zip(words, led)})


def own_store(setting):
    """The store whose states stand for the beginning and for all least logs, led as deeds put behind them tell."""
    check_setting(setting)
    return _store_led(classes_of(setting).led)


def own_names(setting):
    """For each of the words a, b, .., in this order, the log that it stands for in own_store."""
    check_setting(setting)
    logs = classes_of(setting).logs
    return dict(zip(counting_words(len(logs)), logs))


def _leader(leaders, number):
    """The least of the numbers that were put together with a number."""
    while leaders[number] != number:
        number = leaders[number]
    return number


def _put_together(led, leaders, one, other):
    """The leaders with two numbers put together, and all those to which the same deeds lead from them."""
    further = list(leaders)
    waiting = [(one, other)]
    while len(waiting) > 0:
        one, other = waiting.pop()
        one = _leader(further, one)
        other = _leader(further, other)
        if one != other:
            further[max(one, other)] = min(one, other)
            waiting.extend([(led[one][deed], led[other][deed]) for deed in led[one]])
    return further


def _with_one_of(led, leaders, apart, number, parted):
    """The leaders with a number put together with the first of some numbers for which two others stay apart, if any."""
    one, other = parted
    for ahead in apart:
        further = _put_together(led, leaders, ahead, number)
        if _leader(further, one) != _leader(further, other):
            return further
    return leaders


def _leaders_apart(led, parted):
    """The leaders when numbers are put together while any two can be and two others stay apart."""
    leaders = list(range(len(led)))
    apart = []
    for number in range(len(led)):
        if leaders[number] == number:
            leaders = _with_one_of(led, leaders, apart, number, parted)
        if leaders[number] == number:
            apart.append(number)
    return leaders


def telling(setting, one, other):
    """A store that a setting types and a state from which two logs lead to different ones; None if they are alike."""
    check_two_logs(setting, one, other)
    classes = classes_of(setting)
    parted = (classes.number_of(one), classes.number_of(other))
    if parted[0] == parted[1]:
        return None
    # With all numbers apart the store would tell, too; put together they are but a few states.
    led = classes.led
    leaders = _leaders_apart(led, parted)
    apart = [number for number in range(len(led)) if leaders[number] == number]
    places = {number: place for place, number in enumerate(apart)}
    store = _store_led([
        {deed: places[_leader(leaders, led[number][deed])] for deed in led[number]} for number in apart
    ])
    return store, counting_words(1)[0]


def is_telling(setting, one, other, value):
    """Whether any object is a store that a setting types and a state from which two logs lead to different ones."""
    check_two_logs(setting, one, other)
    if not isinstance(value, tuple) or len(value) != 2:
        return False
    store, state = value
    if not isinstance(store, Store) or store.deeds() != list(setting.deeds()) or state not in store.states():
        return False
    return behind(store, state, one) != behind(store, state, other) and is_typed(setting, store)


def least_states(setting, one, other):
    """The logs of own_names, in its order, from whose states two logs lead to different ones."""
    check_two_logs(setting, one, other)
    classes = classes_of(setting)
    return [
        log for number, log in enumerate(classes.logs)
        if classes.number_behind(number, one) != classes.number_behind(number, other)
    ]
