"""A desk: a log that is being done, with its marks and its falls; what was done on it can be taken back."""

from kindtwice.errors import InvalidDeed, InvalidDesk, InvalidRecord, NothingToRedo, NothingToUndo, Refused
from kindtwice.falls import chain_back, last_mark
from kindtwice.marks import is_covered, open_points, reach
from kindtwice.settings import check_log, check_setting, is_log

WITHOUT_DEED = ("mark", "fall", "go_on")


class Stand:
    """How things stand on a desk, never changed once made.

    `log` is the log meant, `kept` its marks, `fallen` the falls, `made` all deeds done, `point` the point come to.
    """

    def __init__(self, log, kept, fallen, made, point):
        self.log = log
        self.kept = kept
        self.fallen = fallen
        self.made = made
        self.point = point


class Trial:
    """A block: when it is left, the desk is as it was when the block was entered."""

    def __init__(self, desk):
        self.desk = desk
        self.stand = None
        self.past = None
        self.coming = None

    def __enter__(self):
        self.stand = self.desk.stand
        self.past = self.desk.past
        self.coming = self.desk.coming
        return self.desk

    def __exit__(self, kind, value, trace):
        desk = self.desk
        desk.stand = self.stand
        desk.past = self.past
        desk.coming = self.coming


class Desk:
    """A log that is being done, its marks and its falls.

    Lists that are held are never changed, only replaced: so a block and a copy may hold them, too. `past` are the
    commands that can be undone, each with how things stood ahead of it, `coming` those that can be made again, the
    next one last, each with how things stood behind it.
    """

    def __init__(self, setting):
        check_setting(setting)
        self.setting = setting
        self.stand = Stand([], [0], [], [], 0)
        self.past = []
        self.coming = []

    def meant(self):
        """The log that is being done."""
        return list(self.stand.log)

    def done(self):
        """All deeds done so far, in their order."""
        return list(self.stand.made)

    def marks(self):
        """The marks of the log."""
        return list(self.stand.kept)

    def falls(self):
        """The points of the falls, in their order."""
        return list(self.stand.fallen)

    def at(self):
        """The point of the log that it has come to."""
        return self.stand.point

    def do(self, deed):
        """Do the log's next deed or, when all are done, any deed, which is put behind the log."""
        stand = self.stand
        log = stand.log
        if stand.point == len(log) and is_log(self.setting, [deed]):
            log = log + [deed]
        if stand.point == len(log) or deed != log[stand.point]:
            raise InvalidDeed(deed)
        self._make(("do", deed), Stand(log, stand.kept, stand.fallen, stand.made + [deed], stand.point + 1))

    def mark(self):
        """Make a mark behind the log."""
        stand = self.stand
        end = len(stand.log)
        if stand.point < end or end in stand.kept or end in stand.fallen:
            raise Refused("mark")
        self._make(("mark",), Stand(stand.log, stand.kept + [end], stand.fallen, stand.made, end))

    def fall(self):
        """Begin the log again at the last mark, and return it."""
        stand = self.stand
        mark = last_mark(stand.kept, stand.point)
        self._make(("fall",), Stand(stand.log, stand.kept, stand.fallen + [stand.point], stand.made, mark))
        return mark

    def go_on(self):
        """Do all deeds of the log that are not done, and return how many they were."""
        stand = self.stand
        rest = stand.log[stand.point:]
        self._make(("go_on",), Stand(stand.log, stand.kept, stand.fallen, stand.made + rest, len(stand.log)))
        return len(rest)

    def _make(self, command, stand):
        """Note a new command, and how things stand behind it."""
        self.past = self.past + [(command, self.stand)]
        self.coming = []
        self.stand = stand

    def is_safe(self):
        """Whether the marks cover the log."""
        return is_covered(self.setting, self.stand.log, self.stand.kept)

    def why_not(self):
        """All (mark, point) of a mark and a point that it reaches by a stretch of no kind in twice."""
        return open_points(self.setting, self.stand.log, self.stand.kept)

    def next_mark(self, log):
        """With some deeds to come: the greatest point at which a mark may stand behind the last one, or None."""
        check_log(self.setting, log)
        return reach(self.setting, self.stand.log + log, self.stand.kept[-1])

    def chain(self):
        """Logs from the done one to the log meant, each but the first a halving of the one ahead."""
        stand = self.stand
        if stand.point < len(stand.log) or not self.is_safe():
            raise Refused("chain")
        return chain_back(self.setting, stand.log, stand.kept, stand.fallen)

    def undo(self):
        """Take back the last command that was not taken back."""
        if len(self.past) == 0:
            raise NothingToUndo()
        command, stand = self.past[-1]
        self.past = self.past[:-1]
        self.coming = self.coming + [(command, self.stand)]
        self.stand = stand

    def redo(self):
        """Make the command that was taken back last again."""
        if len(self.coming) == 0:
            raise NothingToRedo()
        command, stand = self.coming[-1]
        self.coming = self.coming[:-1]
        self.past = self.past + [(command, self.stand)]
        self.stand = stand

    def trial(self):
        """A block: when it is left, the desk is as it was."""
        return Trial(self)

    def attempt(self, action):
        """What a function returns that is called with the desk in a block."""
        with self.trial() as desk:
            told = action(desk)
        return told

    def copy(self):
        """An independent desk that is the same in everything, in no block."""
        other = Desk(self.setting)
        other.stand = self.stand
        other.past = self.past
        other.coming = self.coming
        return other

    def record(self):
        """What was done and not taken back."""
        return [command for command, _ in self.past]


def check_desk(desk):
    """Raise InvalidDesk unless any object is a Desk."""
    if not isinstance(desk, Desk):
        raise InvalidDesk(desk)


def make(desk, command):
    """Make a command on a desk, and return what its method does."""
    word = command[0]
    if word == "do":
        return desk.do(command[1])
    if word == "mark":
        return desk.mark()
    if word == "fall":
        return desk.fall()
    if word == "go_on":
        return desk.go_on()
    if word == "undo":
        return desk.undo()
    return desk.redo()


def _is_recorded(value):
    """Whether any object is of the form of a command in a record, whatever the deed."""
    if not isinstance(value, tuple):
        return False
    if len(value) == 2:
        return value[0] == "do"
    return len(value) == 1 and value[0] in WITHOUT_DEED


def replayed(desk, record):
    """A copy of a desk on which the commands of a record are made, one after the other."""
    check_desk(desk)
    if not isinstance(record, list) or not all([_is_recorded(command) for command in record]):
        raise InvalidRecord(record)
    other = desk.copy()
    for command in record:
        make(other, command)
    return other
