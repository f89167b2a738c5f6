"""The least logs of a setting that is not endless, and to which of them each deed leads from each."""

from kindtwice.endless import is_endless
from kindtwice.errors import Endless
from kindtwice.forms import LETTERS
from kindtwice.pairs import all_pairs


class Classes:
    """The log without deeds and all least logs, numbered in their order, and where deeds put behind them lead.

    `logs` are the logs by their numbers, `led` for each number the numbers by deeds.
    """

    def __init__(self, setting):
        pairs = all_pairs(setting)
        deeds = dict(zip(LETTERS, list(setting.deeds())))
        words = []
        level = [""]
        while len(level) > 0:
            words = words + level
            level = [word + letter for word in level for letter in deeds if pairs.is_least(word + letter)]
        numbers = {word: number for number, word in enumerate(words)}
        self.logs = [[deeds[letter] for letter in word] for word in words]
        self.led = [
            {deeds[letter]: numbers[pairs.written(word + letter)] for letter in deeds} for word in words
        ]

    def number_behind(self, number, log):
        """The number to which a log leads from a number."""
        for deed in log:
            number = self.led[number][deed]
        return number

    def number_of(self, log):
        """The number of the least log of a log; 0 of the log without deeds."""
        return self.number_behind(0, log)


def classes_of(setting):
    """The classes of a setting; raise Endless if it is endless."""
    if is_endless(setting):
        raise Endless(setting)
    return Classes(setting)
