"""The text of a setting, written and read."""

from comesback.errors import NoText
from comesback.settings import check_setting

# Each part with its name in the text and all that it may be, in the order of the setting.
PARTS = (
    ("work", (1, 2, 3)),
    ("room", (1, 2, 3, 4, 5)),
    ("patience", (1, 2, 3, 4)),
    ("tries", (1, 2, 3)),
    ("wait", (1, 2, 3)),
    ("way", ("oldest", "newest")),
    ("dead", (True, False)),
    ("tokens", (None, 0, 1, 2, 3, 4)),
    ("fuse", (None, (1, 1), (1, 2), (1, 3), (2, 1), (2, 2), (2, 3), (3, 1), (3, 2), (3, 3))),
)


def setting_text(setting):
    """Return the text of the setting."""
    check_setting(setting)
    return "".join([line(name, value) + "\n" for (name, _), value in zip(PARTS, setting)])


def read_setting(text):
    """Return the setting with exactly this text."""
    if not isinstance(text, str):
        raise NoText("this is no text")
    lines = text.split("\n")
    if len(lines) != len(PARTS) + 1 or lines[-1] != "":
        raise NoText("a setting has nine lines, each with a line feed")
    return tuple([read_line(name, values, one) for (name, values), one in zip(PARTS, lines)])


def line(name, value):
    """Return the line of one part, without the line feed."""
    return f"{name} {words(value)}"


def words(value):
    """Return the words for one part of a setting."""
    if value is None:
        return "none"
    if isinstance(value, bool):
        return "yes" if value else "no"
    if isinstance(value, tuple):
        return " ".join([str(one) for one in value])
    return str(value)


def read_line(name, values, written):
    """Return which of the values is written in this line."""
    for value in values:
        if written == line(name, value):
            return value
    raise NoText("this is no line of a setting")
