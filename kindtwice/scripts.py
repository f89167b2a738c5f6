"""Scripts: commands for a desk, tries in blocks among them; what they come to, and their texts."""

from kindtwice.desk import Desk, check_desk, make
from kindtwice.errors import InvalidDeed, InvalidScript, InvalidText, NothingToRedo, NothingToUndo, Refused
from kindtwice.forms import is_word
from kindtwice.settings import check_setting

SINGLE = ("mark", "fall", "go_on", "undo", "redo")


def _is_command(value):
    """Whether any object is a command, perhaps a try."""
    if not isinstance(value, tuple):
        return False
    if len(value) == 2 and value[0] == "try":
        return _is_script(value[1])
    if len(value) == 2 and value[0] == "do":
        return is_word(value[1])
    return len(value) == 1 and value[0] in SINGLE


def _is_script(value):
    """Whether any object is a list of commands."""
    return isinstance(value, list) and all([_is_command(command) for command in value])


def _check_script(script):
    """Raise InvalidScript unless any object is a script."""
    if not _is_script(script):
        raise InvalidScript(script)


def _outcome(desk, command):
    """What a command comes to that is made on a desk."""
    if command[0] == "try":
        with desk.trial():
            told = _outcomes(desk, command[1])
        return "tried", told
    try:
        return "told", make(desk, command)
    except InvalidDeed:
        return "refused", "InvalidDeed"
    except Refused:
        return "refused", "Refused"
    except NothingToUndo:
        return "refused", "NothingToUndo"
    except NothingToRedo:
        return "refused", "NothingToRedo"


def _outcomes(desk, script):
    """What the commands of a script come to, made on a desk one after the other."""
    return [_outcome(desk, command) for command in script]


def play(desk, script):
    """Make the commands of a script on a desk, and return what they come to."""
    check_desk(desk)
    _check_script(script)
    return _outcomes(desk, script)


def _lines(script, space):
    """The lines of a script, so much space ahead of each."""
    lines = []
    for command in script:
        if command[0] == "try":
            lines = lines + [space + "try"] + _lines(command[1], space + "  ") + [space + "end"]
        else:
            lines.append(space + " ".join(command))
    return lines


def script_text(script):
    """The text of a script, a line for each command."""
    _check_script(script)
    return "\n".join(_lines(script, ""))


def _read(text):
    """What may be the script of a text, wherever its blanks stand; None if a try has no end."""
    scripts = [[]]
    for line in text.split("\n") if len(text) > 0 else []:
        words = line.split()
        if words == ["try"]:
            scripts.append([])
        elif words == ["end"] and len(scripts) > 1:
            tried = scripts.pop()
            scripts[-1].append(("try", tried))
        else:
            scripts[-1].append(tuple(words))
    return scripts[0] if len(scripts) == 1 else None


def read_script(text):
    """The script that a text is one of."""
    script = _read(text) if isinstance(text, str) else None
    if not _is_script(script) or script_text(script) != text:
        raise InvalidText(text)
    return script


def _end(setting, script):
    """The log, the marks and the falls of a new desk behind a script."""
    desk = Desk(setting)
    _outcomes(desk, script)
    return desk.meant(), desk.marks(), desk.falls()


def end_of(setting, script):
    """The log, the marks and the falls of a new desk of a setting behind a script."""
    check_setting(setting)
    _check_script(script)
    return _end(setting, script)


def needless(setting, script):
    """The positions, ascending, of the commands without which, one at a time, a script comes to the same end."""
    end = end_of(setting, script)
    return [at for at in range(len(script)) if _end(setting, script[:at] + script[at + 1:]) == end]
