"""What is told of a row: one push, the fewest pushes, pushes to the right alone, higher stones."""

from fallrow.answers import Chain, Fewest, Higher, Rights, Stands
from fallrow.falls import every_push, knocks, reach, spans, unknocked
from fallrow.rows import RIGHT, check_push, check_row, check_stone


def chain_back(knockers, stone):
    stones = [stone]
    while stones[-1] in knockers:
        stones.append(knockers[stones[-1]])
    stones.reverse()
    return stones


def reached(row, push, stone):
    check_row(row)
    check_push(row, push)
    check_stone(row, stone)
    pushed = push[0]
    side = push[1]
    knockers = {}
    farthest = pushed
    k = pushed + side
    # Of all that have fallen the one that reaches farthest is asked alone:
    # what it doesn't knock over, none of the others does.
    while 0 <= k < len(row) and knocks(row, farthest, k, side):
        knockers[k] = farthest
        if reach(row, k, side) > reach(row, farthest, side):
            farthest = k
        k += side
    if stone == pushed or stone in knockers:
        return Chain(chain_back(knockers, stone))
    return Stands(reach(row, farthest, side) * side)


def widest(row):
    """Of each stone the longest fall that begins there: its last stone and its push."""
    found = [(k, (k, RIGHT)) for k in range(len(row))]
    pushes = every_push(row)
    for push, span in zip(pushes, spans(row, pushes)):
        if span[1] > found[span[0]][0]:
            found[span[0]] = (span[1], push)
    return found


# Told is the first stone that still stands, and pushed what fells it and goes
# on farthest: so no push fells both it and one that is told later.
def fewest(row):
    check_row(row)
    pushes = []
    stones = []
    best = (-1, None)
    standing = 0
    for k, fall in enumerate(widest(row)):
        if fall[0] > best[0]:
            best = fall
        if k == standing:
            stones.append(k)
            pushes.append(best[1])
            standing = best[0] + 1
    return Fewest(pushes, stones)


def rights(row):
    check_row(row)
    return Rights(unknocked(row))


# A stone lacks what lies between it and the farthest reach ahead of it. All
# fall when the stones are higher by the greatest such lack, and with one less
# the stone of that lack is beyond the reach of all ahead of it.
def higher(row, stone):
    check_row(row)
    check_stone(row, stone)
    number = 0
    lacking = None
    farthest = reach(row, stone, RIGHT)
    for k in range(stone + 1, len(row)):
        if row[k][0] - farthest > number:
            number = row[k][0] - farthest
            lacking = k
        farthest = max(farthest, reach(row, k, RIGHT))
    return Higher(number, lacking)
