"""How far falls go: what a stone reaches and knocks over, and what each push fells."""

from fallrow.rows import LEFT, RIGHT, first_standing, mirrored


# Places are told times the side wherever both sides are asked for, so that
# what lies farther to the side is the greater number.
def reach(row, stone, side):
    return row[stone][0] * side + row[stone][1]


def knocks(row, stone, other, side):
    return row[stone][0] * side < row[other][0] * side <= reach(row, stone, side)


# A stone that falls takes along all that the next one's own fall takes, so the
# walk goes on behind that. A fall walked over once is never walked over again,
# since the longer one then stands in its place.
def right_ends(row):
    """Of each stone the last one that its push to the right fells."""
    ends = list(range(len(row)))
    for k in range(len(row) - 1, -1, -1):
        end = k
        while end + 1 < len(row) and row[end + 1][0] <= reach(row, k, RIGHT):
            end = ends[end + 1]
        ends[k] = end
    return ends


def left_ends(row):
    """Of each stone the first one that its push to the left fells."""
    return [len(row) - 1 - end for end in reversed(right_ends(mirrored(row)))]


def every_push(row):
    return [(k, RIGHT) for k in range(len(row))] + [(k, LEFT) for k in range(len(row))]


def spans(row, pushes):
    """Of each push the first and the last stone that it fells; all between them fall, too."""
    firsts = left_ends(row)
    lasts = right_ends(row)
    return [(stone, lasts[stone]) if side == RIGHT else (firsts[stone], stone) for stone, side in pushes]


# The first stone that a fall leaves standing is beyond the reach of all that
# are ahead of it, and those that fall are each knocked over by one of them.
def unknocked(row):
    """The stones, rising, that no other stone knocks over to the right."""
    stones = []
    k = 0
    while k < len(row):
        stones.append(k)
        k = first_standing(row, k)
    return stones
