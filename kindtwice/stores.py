"""Stores: states that are led by deeds to states; which of them a setting types."""

from kindtwice.errors import InvalidLog, InvalidMoves, InvalidState, InvalidStore, Unlike
from kindtwice.forms import counting_words, is_word
from kindtwice.kinds import own_squares
from kindtwice.settings import check_setting, is_log, kind_of


class Store:
    """Some states, and to which state each deed leads from each of them."""

    def __init__(self, moves):
        if not _are_moves(moves):
            raise InvalidMoves(moves)
        self._moves = {
            state: {deed: moves[state][deed] for deed in sorted(moves[state])} for state in sorted(moves)
        }

    def moves(self):
        """To which state each deed leads from each state, states and deeds ascending."""
        return {state: dict(self._moves[state]) for state in self._moves}

    def states(self):
        """The states, ascending."""
        return list(self._moves)

    def deeds(self):
        """The deeds, ascending."""
        return list(self._moves[self.states()[0]])

    def __eq__(self, other):
        return isinstance(other, Store) and self._moves == other._moves


def _leads_from_words(value):
    """Whether any object is a dictionary, not empty, from words."""
    return isinstance(value, dict) and len(value) > 0 and all([is_word(word) for word in value])


def _are_moves(moves):
    """Whether any object leads from words to dictionaries, all of them from the same words to some of the former."""
    if not _leads_from_words(moves) or not all([_leads_from_words(led) for led in moves.values()]):
        return False
    deeds = [sorted(led) for led in moves.values()]
    if not all([row == deeds[0] for row in deeds]):
        return False
    return all([isinstance(state, str) and state in moves for led in moves.values() for state in led.values()])


def check_store(store):
    """Raise InvalidStore unless any object is a Store."""
    if not isinstance(store, Store):
        raise InvalidStore(store)


def check_log_of_store(store, log):
    """Raise InvalidLog unless any object is a list, perhaps empty, of deeds of a store."""
    deeds = store.deeds()
    if not isinstance(log, list) or not all([deed in deeds for deed in log]):
        raise InvalidLog(log)


def _led(moves, state, log):
    """The state to which a log leads from a state."""
    for deed in log:
        state = moves[state][deed]
    return state


def behind(store, state, log):
    """The state to which a log leads from a state."""
    check_store(store)
    if state not in store.states():
        raise InvalidState(state)
    check_log_of_store(store, log)
    return _led(store.moves(), state, log)


def behind_all(store, log):
    """The state to which a log leads from each state, states ascending."""
    check_store(store)
    check_log_of_store(store, log)
    moves = store.moves()
    return {state: _led(moves, state, log) for state in moves}


def _check_typing(setting, store):
    """Raise an error unless a setting and a store of its deeds are passed."""
    check_setting(setting)
    check_store(store)
    if store.deeds() != list(setting.deeds()):
        raise Unlike(store)


def _parted_at(setting, moves, middle):
    """All (kind, (log, state)) of a log that leads from the state to the middle one, and from there elsewhere.

    Of the logs of one kind that lead from some state and from the middle one to the same two, only a shortest one
    counts; shorter ones come first.
    """
    table = setting.kinds().table()
    deeds = setting.deeds()
    reached = {}
    for state in moves:
        for deed in deeds:
            reached.setdefault((deeds[deed], moves[state][deed], moves[middle][deed]), ([deed], state))
    told = list(reached)
    at = 0
    while at < len(told):
        kind, one, other = told[at]
        log, state = reached[told[at]]
        for deed in deeds:
            further = (table[(kind, deeds[deed])], moves[one][deed], moves[other][deed])
            if further not in reached:
                reached[further] = (log + [deed], state)
                told.append(further)
        at += 1
    return [(node[0], reached[node]) for node in told if node[1] == middle and node[2] != middle]


def _breaking(setting, store):
    """For each kind of which there is one: a shortest log that leads elsewhere done twice, and a state from which."""
    _check_typing(setting, store)
    moves = store.moves()
    found = {}
    for middle in moves:
        for kind, parted in _parted_at(setting, moves, middle):
            if kind not in found or len(parted[0]) < len(found[kind][0]):
                found[kind] = parted
    return found


def _breaking_twice(setting, store):
    """As _breaking tells, for the kinds in twice alone: a list of the logs with their states."""
    found = _breaking(setting, store)
    return [found[kind] for kind in setting.twice() if kind in found]


def is_typed(setting, store):
    """Whether each log of a kind in twice leads from every state, done twice, to where it leads done once."""
    return len(_breaking_twice(setting, store)) == 0


def untyped(setting, store):
    """A log of a kind in twice and a state from which it leads elsewhere done twice; None if the store is typed."""
    return min(_breaking_twice(setting, store), key=lambda one: len(one[0]), default=None)


def is_untyped(setting, store, value):
    """Whether any object is a log of a kind in twice and a state from which it leads elsewhere done twice."""
    _check_typing(setting, store)
    if not isinstance(value, tuple) or len(value) != 2:
        return False
    log, state = value
    if not is_log(setting, log) or len(log) == 0 or state not in store.states():
        return False
    moves = store.moves()
    once = _led(moves, state, log)
    return kind_of(setting, log) in setting.twice() and _led(moves, once, log) != once


def least_untyped(setting, store):
    """How many deeds the shortest log has that untyped may return; None if the store is typed."""
    return min([len(log) for log, _ in _breaking_twice(setting, store)], default=None)


def typed_kinds(setting, store):
    """The own-square kinds of which each log leads from every state, done twice, to where it leads done once."""
    found = _breaking(setting, store)
    return [kind for kind in own_squares(setting.kinds()) if kind not in found]


def parted_states(store, one, other):
    """The states, ascending, from which two logs lead to different ones."""
    check_store(store)
    check_log_of_store(store, one)
    check_log_of_store(store, other)
    moves = store.moves()
    return [state for state in moves if _led(moves, state, one) != _led(moves, state, other)]


def same_in(store, one, other):
    """Whether two logs lead from every state to the same."""
    return len(parted_states(store, one, other)) == 0


def both_names(one, other):
    """For each of the words a, b, .., in this order, the state of the one store and that of the other it stands for."""
    check_store(one)
    check_store(other)
    if one.deeds() != other.deeds():
        raise Unlike(other)
    pairs = [(state, beside) for state in one.states() for beside in other.states()]
    return dict(zip(counting_words(len(pairs)), pairs))


def both_stores(one, other):
    """The store of two stores that are led by each deed together."""
    names = both_names(one, other)
    words = {names[word]: word for word in names}
    moves = one.moves()
    beside = other.moves()
    return Store({
        words[(first, second)]: {deed: words[(moves[first][deed], beside[second][deed])] for deed in one.deeds()}
        for first, second in words
    })
