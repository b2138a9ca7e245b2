"""Nets written as text and read back."""

from ringlaps.errors import BadText
from ringlaps.letters import letter_in, letter_text
from ringlaps.net import Net
from ringlaps.words import line_of, numbers_of

CIRCLE_FORM = "circle #"
LONE_FORM = "house # next #"
HOUSE_FORM = "house # next # before #"

MOST_PLACES = 1000000000


def format_net(net):
    """Return the text of the net."""
    lines = [line_of(CIRCLE_FORM, [net.size])]
    lines.extend([_house_line(net, house) for house in net.houses()])
    lines.extend([letter_text(letter) for letter in net.letters()])
    return "\n".join(lines)


def parse_net(text):
    """Return the net that is written as the text."""
    rows = [_row_in(line) for line in text.split("\n")]
    _check_forms(rows)
    house_rows = [row for row in rows if row[0] == "house"]
    nexts = {row[1]: row[2] for row in house_rows}
    # The row of a house without a before ends with its next.
    befores = {row[1]: row[3] for row in house_rows if len(row) > 3}
    _check_names(rows, nexts)
    letters = rows[1 + len(house_rows) :]
    return Net(rows[0][1], nexts, befores=befores, letters=letters)


def _house_line(net, house):
    before = net.before_of(house)
    if before is None:
        return line_of(LONE_FORM, [house, net.next_of(house)])
    return line_of(HOUSE_FORM, [house, net.next_of(house), before])


def _row_in(line):
    """Return the first word of the line with its numbers, or None if it has none of the forms."""
    for form in (CIRCLE_FORM, LONE_FORM, HOUSE_FORM):
        numbers = numbers_of(form, line)
        if numbers is not None:
            return (form.split(" ")[0], *numbers)
    return letter_in(line)


def _check_forms(rows):
    if not _may_begin(rows[0]):
        raise BadText(1)
    size = rows[0][1]
    for line, (earlier, row) in enumerate(zip(rows, rows[1:]), start=2):
        if not _may_follow(size, earlier, row):
            raise BadText(line)


def _may_begin(row):
    return row is not None and row[0] == "circle" and 1 <= row[1] <= MOST_PLACES


def _may_follow(size, earlier, row):
    """Return whether the row may stand in a net's text directly after the earlier one."""
    if row is None or row[0] == "circle" or max(row[1:]) >= size:
        return False
    if row[0] != "house" or earlier[0] == "circle":
        return True
    return earlier[0] == "house" and earlier[1] < row[1]


def _check_names(rows, nexts):
    for line, row in enumerate(rows[1:], start=2):
        if any([place not in nexts for place in row[1:]]):
            raise BadText(line)
