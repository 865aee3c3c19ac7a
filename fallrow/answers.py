"""Answers, each of which can be asked whether it shows what it tells."""

from fallrow.falls import every_push, knocks, reach, spans, unknocked
from fallrow.rows import first_standing, is_count, is_push


def fell_all(row, pushes):
    standing = 0
    for first, last in sorted(spans(row, pushes)):
        if first > standing:
            return False
        standing = max(standing, last + 1)
    return standing == len(row)


# A stone that is told twice counts twice here: its own push fells both.
def fells_two(row, stones):
    """Whether some push fells two of the stones."""
    told = [0] * len(row)
    for stone in stones:
        told[stone] += 1
    ahead = [0]
    for number in told:
        ahead.append(ahead[-1] + number)
    return any([ahead[last + 1] - ahead[first] > 1 for first, last in spans(row, every_push(row))])


def raised(row, number):
    return [(place, height + number) for place, height in row]


class Answer:
    pass


class Chain(Answer):
    def __init__(self, stones):
        self.stones = list(stones)

    def shows(self, row, push, stone):
        if not self.stones or not all([is_count(row, k) for k in self.stones]):
            return False
        if self.stones[0] != push[0] or self.stones[-1] != stone:
            return False
        return all([knocks(row, one, other, push[1]) for one, other in zip(self.stones, self.stones[1:])])


class Stands(Answer):
    def __init__(self, place):
        self.place = place

    def shows(self, row, push, stone):
        side = push[1]
        start = row[push[0]][0] * side
        end = self.place * side
        if end < start or start <= row[stone][0] * side <= end:
            return False
        return all([reach(row, k, side) <= end for k in range(len(row)) if start <= row[k][0] * side <= end])


class Fewest(Answer):
    def __init__(self, pushes, stones):
        self.pushes = list(pushes)
        self.stones = list(stones)

    def shows(self, row):
        if len(self.pushes) != len(self.stones):
            return False
        if not all([is_push(row, push) for push in self.pushes]):
            return False
        if not all([is_count(row, stone) for stone in self.stones]):
            return False
        return fell_all(row, self.pushes) and not fells_two(row, self.stones)


class Rights(Answer):
    def __init__(self, stones):
        self.stones = list(stones)

    # Just one list will do: a stone that no other one knocks over must be
    # pushed itself, and any other stone may not be told.
    def shows(self, row):
        return self.stones == unknocked(row)


class Higher(Answer):
    def __init__(self, number, stone):
        self.number = number
        self.stone = stone

    def shows(self, row, stone):
        if self.number < 0 or first_standing(raised(row, self.number), stone) < len(row):
            return False
        if self.number == 0:
            return self.stone is None
        if self.stone is None:
            return False
        # All behind the first one that stands do so, too.
        return first_standing(raised(row, self.number - 1), stone) <= self.stone < len(row)
