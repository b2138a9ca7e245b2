"""Deeds, which name one call each, and journals of deeds, written as text."""

from ringlaps.errors import BadText
from ringlaps.nettext import format_net, parse_net
from ringlaps.words import line_of, numbers_of

DEED_FORMS = {
    "tell": "tell #",
    "ask": "ask #",
    "read": "read #",
    "lose": "lose #",
    "repeat": "repeat #",
    "admit": "admit # host #",
    "release": "release #",
    "calm": "calm",
    "lap": "lap #",
    "carry": "carry #",
    "drop": "drop #",
    "again": "again #",
}

# The line between the net at the beginning and the deeds.
HEADING = "deeds"


def deed_text(deed):
    """Return the line by which the deed is written."""
    word, *numbers = deed
    return line_of(DEED_FORMS[word], numbers)


def parse_deed(line):
    """Return the deed that is written in the line."""
    deed = _deed_in(line)
    if deed is None:
        raise BadText(1)
    return deed


def journal_text(net, deeds):
    """Return the text of the net at the beginning and of the deeds."""
    lines = [format_net(net), HEADING]
    lines.extend([deed_text(deed) for deed in deeds])
    return "\n".join(lines)


def parse_journal(text):
    """Return the net and the list of the deeds that are written as the text."""
    lines = text.split("\n")
    # Where there is no heading, it is missed behind the last line.
    at = lines.index(HEADING) if HEADING in lines else len(lines)
    net = parse_net("\n".join(lines[:at]))
    if at == len(lines):
        raise BadText(at + 1)
    deeds = []
    for number, line in enumerate(lines[at + 1 :], start=at + 2):
        deed = _deed_in(line)
        if deed is None:
            raise BadText(number)
        deeds.append(deed)
    return (net, deeds)


def _deed_in(line):
    """Return the deed that is written in the line, or None if it is not one."""
    for word, form in DEED_FORMS.items():
        numbers = numbers_of(form, line)
        if numbers is not None:
            return (word, *numbers)
    return None
