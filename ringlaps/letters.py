"""Letters written as lines of text."""

from ringlaps.errors import BadText
from ringlaps.words import line_of, numbers_of

LETTER_FORMS = {
    "tell": "tell # from #",
    "ask": "ask # from #",
    "answer": "answer # from # naming #",
}


def letter_text(letter):
    """Return the line by which the letter is written."""
    word, *places = letter
    return line_of(LETTER_FORMS[word], places)


def parse_letter(text):
    """Return the letter that is written in one line."""
    letter = letter_in(text)
    if letter is None:
        raise BadText(1)
    return letter


def letter_in(line):
    """Return the letter that is written in the line, or None if it is not one."""
    for word, form in LETTER_FORMS.items():
        places = numbers_of(form, line)
        if places is not None:
            return (word, *places)
    return None
