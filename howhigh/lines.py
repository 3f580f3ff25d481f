"""The lines of the desk, and what in its answers has the form that it has in lines (16.1)."""

from howhigh.errors import NoLine
from howhigh.kinds import is_name
from howhigh.sumtexts import number_in

# The words of all lines but that of program, with the kinds of what stands behind them.
FORMS = {
    "drop": ("name",),
    "names": (),
    "ways": ("name",),
    "height": ("name", "way", "name"),
    "top": ("name", "name"),
    "steps": ("name", "way"),
    "covered": ("name", "name", "names"),
    "begin": ("name", "starts"),
    "choose": ("number",),
    "look": (),
    "numbers": (),
    "undo": (),
}


def line_in(line):
    """The tuple of the word of the line and of what stands behind it, read."""
    if not isinstance(line, str) or "\n" in line:
        raise NoLine()
    word, *texts = line.split(" ")
    if word == "program":
        return _program_line(line)
    kinds = FORMS.get(word)
    if kinds is None or len(texts) != len(kinds):
        raise NoLine()
    found = [_read(kind, text) for kind, text in zip(kinds, texts)]
    if None in found:
        raise NoLine()
    return (word, *found)


def _program_line(line):
    """The tuple of the word program, of the name, and of the text with line feeds."""
    word, _, rest = line.partition(" ")
    name, blank, text = rest.partition(" ")
    if not is_name(name) or not blank:
        raise NoLine()
    return (word, name, text.replace("|", "\n"))


def _read(kind, text):
    """What has this text, of one of the kinds of FORMS, None if there is none."""
    if kind == "name":
        return text if is_name(text) else None
    if kind == "number":
        return number_in(text)
    if kind == "names":
        names = text.split(",")
        return tuple(names) if all([is_name(name) for name in names]) else None
    return way_in(text) if kind == "way" else starts_in(text)


def way_in(text):
    """The choices with this text, None if there are none."""
    if text == "-":
        return ()
    numbers = [number_in(part) for part in text.split(",")]
    return None if None in numbers else tuple(numbers)


def way_text(way):
    """The text of a way."""
    return ",".join([str(number) for number in way]) if way else "-"


def starts_in(text):
    """The dict of the starts with this text, None if there is none."""
    found = {}
    last = ""
    for part in text.split(","):
        name, _, digits = part.partition(":")
        number = number_in(digits)
        if not is_name(name) or number is None or name <= last:
            return None
        found[name] = number
        last = name
    return found


def starts_text(numbers):
    """The text of numbers, a dict from names, in the form of starts."""
    return ",".join([f"{name}:{numbers[name]}" for name in sorted(numbers)])
