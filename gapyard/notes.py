"""Notes: a yard as a text, and read of such a text."""

from gapyard.errors import BadNote, YardError
from gapyard.yard import Yard

HEAD = "moments"
# Those of 10 ** 60.
MOST_FIGURES = 61


def note_of(yard):
    """The note of the yard: a row of its moments, then a row for each gap."""
    rows = [" ".join([HEAD] + yard.names())]
    for one, other, most in yard.gaps():
        rows.append(f"{one} {other} {most}")
    return "\n".join(rows)


def yard_of(text):
    """The yard that the text is a note of."""
    if type(text) != str:
        raise BadNote(1)
    rows = text.split("\n")
    yard = _yard_of_head(rows[0])
    for at, row in enumerate(rows[1:], start=2):
        _put_row(yard, row, at)
    return yard


def _yard_of_head(row):
    head, *names = row.split(" ")
    if head != HEAD:
        raise BadNote(1)
    try:
        return Yard(names)
    except YardError:
        raise BadNote(1) from None


def _put_row(yard, row, at):
    """Put the gap that the row tells; at is the number of the row."""
    words = row.split(" ")
    if len(words) != 3:
        raise BadNote(at)
    one, other, word = words
    try:
        earlier = yard.put(one, other, _number_of(word))
    except YardError:
        raise BadNote(at) from None
    if earlier is not None:
        raise BadNote(at)


def _number_of(word):
    """The whole number that is written as the word is, or None where there is none."""
    figures = word.removeprefix("-")
    # Numbers are read only where they are short: Python refuses to read very long ones.
    if not 1 <= len(figures) <= MOST_FIGURES:
        return None
    if not all("0" <= sign <= "9" for sign in figures):
        return None
    number = int(word)
    # Written again, a number has no noughts ahead, and nought no - ahead.
    if str(number) != word:
        return None
    return number
