"""Pairs of a log and an alike one that comes ahead of it, taken until the logs that no pair fits are the least ones.

Logs are written as strings here, a letter for each deed in their order. Of two logs that with fewer deeds comes
ahead, of as many deeds the first one in Python's order.
"""

from heapq import heappop, heappush

from kindtwice.forms import LETTERS


class Pairs:
    """Pairs that write logs down, and what has to be looked at before all ways down from a log lead to one.

    `ahead` is the log ahead in the pair of each log, `waiting` two logs of pairs that share so much, by length.
    """

    def __init__(self):
        self.ahead = {}
        self.waiting = []

    def written(self, log):
        """A log written down by pairs while one fits somewhere in it."""
        fits = True
        while fits:
            fits = False
            for part in self.ahead:
                if part in log:
                    log = log.replace(part, self.ahead[part])
                    fits = True
        return log

    def is_least(self, log):
        """Whether no pair fits a log."""
        return not any([part in log for part in self.ahead])

    def take(self, one, other):
        """Take a pair of two alike logs, once they are written down, unless that leads them to the same."""
        taken = [(one, other)]
        while len(taken) > 0:
            one, other = taken.pop()
            if one != other:
                one = self.written(one)
                other = self.written(other)
            if (len(one), one) < (len(other), other):
                one, other = other, one
            if one != other:
                taken.extend(self.drop(one))
                self.put(one, other)

    def drop(self, part):
        """Drop the pairs of logs in which a part stands, and return them: the part's own pair fits there now."""
        dropped = [(log, self.ahead[log]) for log in self.ahead if part in log]
        for log, _ in dropped:
            del self.ahead[log]
        return dropped

    def put(self, log, ahead):
        """Put a pair beside the others, and note the logs that it and another one fit, or it twice."""
        self.ahead[log] = ahead
        for other in list(self.ahead):
            if log in self.ahead[other]:
                self.ahead[other] = self.written(self.ahead[other])
            self.note_shared(log, other)
            if other != log:
                self.note_shared(other, log)

    def note_shared(self, one, other):
        """Note the logs that begin with the one log and end with the other, sharing what is between."""
        for shared in range(1, min(len(one), len(other))):
            if one.endswith(other[:shared]):
                heappush(self.waiting, (len(one) + len(other) - shared, one, other, shared))

    def settle(self, longest):
        """Take as pairs the two ways down from each log noted that is at most so long."""
        while len(self.waiting) > 0 and self.waiting[0][0] <= longest:
            _, one, other, shared = heappop(self.waiting)
            # A log whose pair was dropped is written down by others, and these are noted, too.
            if one in self.ahead and other in self.ahead:
                self.take(self.ahead[one] + other[shared:], one[:-shared] + self.ahead[other])


def all_pairs(setting):
    """The pairs of a setting that is not endless by which each log is written down to its least one."""
    table = setting.kinds().table()
    twice = setting.twice()
    kinds = dict(zip(LETTERS, list(setting.deeds().values())))
    pairs = Pairs()
    level = [(letter, kinds[letter]) for letter in kinds]
    longest = 0
    # By growing lengths alone: what comes of a few doubles only may go on without end.
    while len(level) > 0 or len(pairs.waiting) > 0:
        longest += 2
        pairs.settle(longest)
        for log, kind in level:
            if kind in twice and pairs.is_least(log):
                pairs.take(log + log, log)
        level = [
            (log + letter, table[(kind, kinds[letter])]) for log, kind in level if pairs.is_least(log)
            for letter in kinds if pairs.is_least(log + letter)
        ]
    return pairs
