"""Rows of stones: what is refused as one, the row mirrored, and what a push fells."""

from fallrow.errors import BadRow, BadSide, BadStone

RIGHT = 1
LEFT = -1


def is_number(value):
    # Python takes True and False for whole numbers; a row does not.
    return isinstance(value, int) and not isinstance(value, bool)


def is_pair(value):
    return isinstance(value, tuple) and len(value) == 2


def is_stone(value):
    return is_pair(value) and is_number(value[0]) and is_number(value[1]) and value[1] >= 1


def is_count(row, value):
    return is_number(value) and 0 <= value < len(row)


def is_side(value):
    # Asked first whether it is a number, since True and 1.0 are equal to 1.
    return is_number(value) and (value == RIGHT or value == LEFT)


def is_push(row, value):
    return is_pair(value) and is_count(row, value[0]) and is_side(value[1])


# The words of a refusal never show the value: a number of very many figures
# can't be turned into a text, and that would raise another error.
def check_row(row):
    if not isinstance(row, list):
        raise BadRow("a row is a list of stones")
    for stone in row:
        if not is_stone(stone):
            raise BadRow("a stone is a pair of a place and a height of 1 or more, whole numbers")
    for k in range(1, len(row)):
        if row[k][0] <= row[k - 1][0]:
            raise BadRow("each place is greater than the one ahead of it")


def check_stone(row, stone):
    if not is_count(row, stone):
        raise BadStone("a stone is told by its count in the row, from 0")


def check_side(side):
    if not is_side(side):
        raise BadSide("a side is 1 or -1")


def check_push(row, push):
    if not is_pair(push):
        raise BadStone("a push is a pair of a stone's count and a side")
    check_stone(row, push[0])
    check_side(push[1])


def mirrored(row):
    check_row(row)
    return [(-place, height) for place, height in reversed(row)]


# What falls to the right is without a gap: a stone that is reached has all
# those ahead of it reached too. So the first one beyond reach ends the fall.
def first_standing(row, stone):
    reach = row[stone][0] + row[stone][1]
    k = stone + 1
    while k < len(row) and row[k][0] <= reach:
        reach = max(reach, row[k][0] + row[k][1])
        k += 1
    return k


def felled(row, stone, side):
    check_row(row)
    check_stone(row, stone)
    check_side(side)
    if side == RIGHT:
        return list(range(stone, first_standing(row, stone)))
    last = len(row) - 1
    end = first_standing(mirrored(row), last - stone)
    return list(range(last - end + 1, stone + 1))
