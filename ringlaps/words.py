"""Lines of words and numbers that are written in a given form.

A form is a line in which a # stands for each number, such as "tell # from #".
"""

MOST_DIGITS = 10


def line_of(form, numbers):
    """Return the line of this form with these numbers in their order."""
    parts = form.split("#")
    line = parts[0]
    for number, part in zip(numbers, parts[1:]):
        line = line + str(number) + part
    return line


def numbers_of(form, line):
    """Return the list of the numbers of a line of this form, or None if it has another one."""
    wanted = form.split(" ")
    words = line.split(" ")
    if len(words) != len(wanted):
        return None
    numbers = []
    for want, word in zip(wanted, words):
        if want == "#":
            if not _is_number(word):
                return None
            numbers.append(int(word))
        elif want != word:
            return None
    return numbers


def _is_number(word):
    if not word.isdigit() or len(word) > MOST_DIGITS:
        return False
    return word == "0" or not word.startswith("0")
