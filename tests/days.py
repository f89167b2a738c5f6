"""Marks and days of falls by the words of the document alone, and a plain desk that makes all commands anew."""

import itertools

from tests.helping import kinds_in, put_together


def all_marks(many):
    """All marks of a log of so many deeds, ascending."""
    points = range(1, many + 1)
    return sorted([0, *rest] for number in range(many + 1) for rest in itertools.combinations(points, number))


def reached_by(mark, marks, many):
    """The points that a mark reaches."""
    points = []
    for point in range(mark + 1, many + 1):
        if point in marks:
            break
        points.append(point)
    return points


def may_twice(setting, log, first, last):
    return put_together(setting.kinds().table(), kinds_in(setting, log[first:last])) in setting.twice()


def open_in(setting, log, marks):
    """All (mark, point) that are open."""
    return [(mark, point) for mark in marks for point in reached_by(mark, marks, len(log))
            if not may_twice(setting, log, mark, point)]


def fewest_in(setting, log):
    """All lists of the fewest marks that cover a log, ascending."""
    covering = [marks for marks in all_marks(len(log)) if not open_in(setting, log, marks)]
    least = min(map(len, covering))
    return [marks for marks in covering if len(marks) == least]


def let_jumps(setting, log):
    """All let jumps of a log."""
    end = len(log) + 1
    return [(first, last) for first in range(end) for last in range(first + 1, end + 1)
            if all(may_twice(setting, log, first, point) for point in range(first + 1, last))]


def day_of(log, marks, falls):
    """What is done on a day, deed by deed, and the marks at which it is begun again; None if it is no day."""
    done, begun, at = [], [], 0
    for fall in falls:
        if not at <= fall <= len(log):
            return None
        done += log[at:fall]
        at = [mark for mark in marks if mark <= fall][-1]
        begun.append(at)
    return done + log[at:], begun


def all_days(log, marks, number):
    """All days with so many falls."""
    return [list(falls) for falls in itertools.product(range(len(log) + 1), repeat=number)
            if day_of(log, marks, falls) is not None]


class PlainDesk:
    """A desk that keeps its commands alone, and makes them anew whenever it is asked."""

    def __init__(self, setting, made=(), again=()):
        self.setting = setting
        self.made = list(made)
        self.again = list(again)

    def copied(self):
        return PlainDesk(self.setting, self.made, self.again)

    def stands(self):
        """The log, its marks, the falls, the deeds done and the point come to."""
        log, marks, falls, done, at = [], [0], [], [], 0
        for command in self.made:
            if command[0] == "do":
                if at == len(log):
                    log.append(command[1])
                done.append(log[at])
                at += 1
            if command[0] == "mark":
                marks.append(len(log))
            if command[0] == "fall":
                falls.append(at)
                at = max(mark for mark in marks if mark <= at)
            if command[0] == "go_on":
                done += log[at:]
                at = len(log)
        return log, marks, falls, done, at

    def told(self, command):
        """The outcome of a command, as in [74]: no tries."""
        log, marks, falls, _, at = self.stands()
        word = command[0]
        if word == "undo" or word == "redo":
            source, goal = (self.made, self.again) if word == "undo" else (self.again, self.made)
            if not source:
                return ("refused", "NothingToUndo" if word == "undo" else "NothingToRedo")
            goal.append(source.pop())
            return ("told", None)
        if word == "do":
            right = [log[at]] if at < len(log) else sorted(self.setting.deeds())
            if command[1] not in right:
                return ("refused", "InvalidDeed")
        if word == "mark" and (at < len(log) or len(log) in marks + falls):
            return ("refused", "Refused")
        self.made.append(command)
        self.again = []
        if word == "fall":
            return ("told", self.stands()[4])
        return ("told", len(log) - at if word == "go_on" else None)

    def played(self, script):
        """The outcomes of a script."""
        outcomes = []
        for command in script:
            if command[0] == "try":
                held = self.copied()
                outcomes.append(("tried", self.played(command[1])))
                self.made, self.again = held.made, held.again
            else:
                outcomes.append(self.told(command))
        return outcomes
