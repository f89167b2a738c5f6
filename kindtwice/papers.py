"""Texts of Kinds, settings and logs, and readers that take just these."""

from kindtwice.errors import InvalidDeeds, InvalidLogs, InvalidTable, InvalidText, InvalidTwice
from kindtwice.forms import is_word
from kindtwice.kinds import Kinds, check_kinds
from kindtwice.settings import Setting, check_setting

EMPTY_LOG = "-"
DEEDS = "deeds"
TWICE = "twice"


def kinds_text(kinds):
    """The text of a Kinds: a line for each pair of kinds, ascending."""
    check_kinds(kinds)
    table = kinds.table()
    return "\n".join([f"{one} {other} = {kind}" for (one, other), kind in table.items()])


def setting_text(setting):
    """The text of a setting: its Kinds, its deeds, and its kinds in twice."""
    check_setting(setting)
    deeds = setting.deeds()
    lines = [DEEDS] + [f"{deed} {deeds[deed]}" for deed in deeds] + [" ".join([TWICE] + setting.twice())]
    return kinds_text(setting.kinds()) + "\n" + "\n".join(lines)


def _kinds_of(lines):
    """The Kinds of lines that may be those of one; raise InvalidTable otherwise."""
    rows = [line.split() for line in lines]
    if not all([len(row) == 4 for row in rows]):
        raise InvalidTable(lines)
    return Kinds({(row[0], row[1]): row[3] for row in rows})


def _setting_of(lines):
    """The setting of lines that may be those of one; raise an error otherwise."""
    if DEEDS not in lines:
        raise InvalidDeeds(lines)
    at = lines.index(DEEDS)
    rows = [line.split() for line in lines[at + 1:]]
    # The last line is that of the kinds in twice, and a deed may be called twice, too.
    if len(rows) == 0 or not all([len(row) == 2 for row in rows[:-1]]):
        raise InvalidDeeds(lines)
    return Setting(_kinds_of(lines[:at]), {row[0]: row[1] for row in rows[:-1]}, rows[-1][1:])


def _check_text(text):
    """Raise InvalidText unless any object is a string."""
    if not isinstance(text, str):
        raise InvalidText(text)


def read_kinds(text):
    """The Kinds that has a text."""
    _check_text(text)
    try:
        kinds = _kinds_of(text.split("\n"))
    except InvalidTable:
        raise InvalidText(text) from None
    if kinds_text(kinds) != text:
        raise InvalidText(text)
    return kinds


def read_setting(text):
    """The setting that has a text."""
    _check_text(text)
    try:
        setting = _setting_of(text.split("\n"))
    except (InvalidTable, InvalidDeeds, InvalidTwice):
        raise InvalidText(text) from None
    if setting_text(setting) != text:
        raise InvalidText(text)
    return setting


def _are_logs(value):
    """Whether any object is a list of lists of words."""
    if not isinstance(value, list) or not all([isinstance(log, list) for log in value]):
        return False
    return all([is_word(deed) for log in value for deed in log])


def logs_text(logs):
    """The text of a list of lists of words, a line for each."""
    if not _are_logs(logs):
        raise InvalidLogs(logs)
    return "\n".join([" ".join(log) if len(log) > 0 else EMPTY_LOG for log in logs])


def read_logs(text):
    """The list of lists of words that has a text."""
    _check_text(text)
    lines = text.split("\n") if len(text) > 0 else []
    logs = [[] if line == EMPTY_LOG else line.split() for line in lines]
    if not _are_logs(logs) or logs_text(logs) != text:
        raise InvalidText(text)
    return logs
