"""Rows as texts: written and read."""

from fallrow.errors import BadRow, BadText
from fallrow.rows import check_row

FIGURES = "0123456789"
MOST_FIGURES = 60


def is_short(number):
    return abs(number) < 10 ** 60


def written(row):
    check_row(row)
    for place, height in row:
        if not is_short(place) or not is_short(height):
            raise BadRow("a row is written of numbers to sixty figures")
    return " ".join([f"{place}:{height}" for place, height in row])


# Not left to Python: it also reads figures of other scripts, blanks and
# underscores, and refuses very many figures with an error of its own.
def is_written_number(text):
    if text == "0":
        return True
    figures = text[1:] if text.startswith("-") else text
    if not 1 <= len(figures) <= MOST_FIGURES or figures[0] == "0":
        return False
    return all([sign in FIGURES for sign in figures])


def read_number(text):
    if not is_written_number(text):
        raise BadText("a number is written in one to sixty figures without a needless nought")
    return int(text)


def read_stone(text):
    parts = text.split(":")
    if len(parts) != 2:
        raise BadText("a stone is written as its place, a colon and its height")
    return (read_number(parts[0]), read_number(parts[1]))


def read(text):
    if not isinstance(text, str):
        raise BadText("only a text is read")
    if text == "":
        return []
    row = [read_stone(part) for part in text.split(" ")]
    try:
        check_row(row)
    except BadRow:
        raise BadText("the places rise, and the heights are 1 or more") from None
    return row
