import copy
import unittest

from fallrow.errors import BadRow, BadSide, BadStone
from fallrow.rows import felled, mirrored
from tests.common import (
    BAD_SIDES, HUGE, Refusing, Unequal, bad_rows, bad_stones, felled_by_the_words, small_rows,
)

ROW = [(-4, 2), (-3, 1), (0, 3), (3, 1), (5, 9)]


class BadRows(Refusing):
    def test_mirrored_refuses(self):
        for row in bad_rows():
            self.refused(BadRow, mirrored, row)

    def test_felled_refuses(self):
        for row in bad_rows():
            self.refused(BadRow, felled, row, 0, 1)
            self.refused(BadRow, felled, row, 0, -1)

    def test_a_fault_that_the_push_would_not_meet_is_refused(self):
        for row in ([(0, 1), (9, 1), (8, 1)], [(0, 1), (9, 1), (20, 0)], [(0, 1), (9, 1), None]):
            self.refused(BadRow, felled, row, 0, 1)
            self.refused(BadRow, felled, row, 0, -1)


class BadStones(Refusing):
    def test_felled_refuses(self):
        for stone in bad_stones(len(ROW)):
            for side in (1, -1):
                self.refused(BadStone, felled, ROW, stone, side)

    def test_a_row_of_none_has_no_stone(self):
        for stone in bad_stones(0):
            self.refused(BadStone, felled, [], stone, 1)
            self.refused(BadStone, felled, [], stone, -1)

    def test_a_row_of_one_has_the_stone_0_alone(self):
        for stone in bad_stones(1):
            self.refused(BadStone, felled, [(5, 5)], stone, 1)


class BadSides(Refusing):
    def test_felled_refuses(self):
        for side in BAD_SIDES:
            for stone in range(len(ROW)):
                self.refused(BadSide, felled, ROW, stone, side)


class TheFirstToldRefusal(Refusing):
    def test_the_row_is_ahead_of_the_stone(self):
        for row in bad_rows():
            self.refused(BadRow, felled, row, -1, 1)

    def test_the_row_is_ahead_of_the_side(self):
        for row in bad_rows():
            self.refused(BadRow, felled, row, 0, 0)

    def test_the_row_is_ahead_of_both(self):
        for row in bad_rows():
            self.refused(BadRow, felled, row, None, None)

    def test_the_stone_is_ahead_of_the_side(self):
        for stone in bad_stones(len(ROW)):
            for side in (0, True, None, Unequal()):
                self.refused(BadStone, felled, ROW, stone, side)


class NothingChangedOrKept(Refusing):
    def test_the_row_is_as_it_was(self):
        row = list(ROW)
        mirrored(row)
        for stone in range(len(row)):
            for side in (1, -1):
                felled(row, stone, side)
        self.assertEqual(row, ROW)
        self.assertTrue(all(one is other for one, other in zip(row, ROW)))

    def test_a_refused_row_is_as_it_was(self):
        for row in ([(0, 1), (2, 1), (1, 1)], [(0, 1), [1, 1]], [(0, 1), None]):
            before = copy.deepcopy(row)
            self.refused(BadRow, mirrored, row)
            self.refused(BadRow, felled, row, 0, 1)
            self.assertEqual(row, before)

    def test_changing_what_was_told_changes_nothing(self):
        for call in (
            lambda: mirrored(ROW), lambda: mirrored([]),
            lambda: felled(ROW, 2, 1), lambda: felled(ROW, 2, -1), lambda: felled(ROW, 4, 1),
        ):
            told = call()
            kept = list(told)
            told.append("more")
            told.reverse()
            self.assertEqual(call(), kept)

    def test_changing_what_was_handed_in_changes_nothing_told(self):
        row = [(0, 1), (1, 1), (2, 1)]
        turned = mirrored(row)
        fallen = felled(row, 0, 1)
        row[2] = (7, 1)
        row.append((8, 1))
        self.assertEqual(turned, [(-2, 1), (-1, 1), (0, 1)])
        self.assertEqual(fallen, [0, 1, 2])

    def test_a_row_that_was_changed_is_told_anew(self):
        row = [(0, 1), (1, 1), (2, 1)]
        mirrored(row)
        felled(row, 0, 1)
        felled(row, 2, -1)
        row[2] = (7, 1)
        self.assertEqual(mirrored(row), [(-7, 1), (-1, 1), (0, 1)])
        self.assertEqual(felled(row, 0, 1), [0, 1])
        self.assertEqual(felled(row, 2, -1), [2])

    def test_what_is_told_is_new(self):
        for row in ([], [(0, 1)], [(-1, 1), (0, 1), (1, 1)]):
            self.assertIsNot(mirrored(row), row)
            self.assertIsNot(mirrored(row), mirrored(row))
        self.assertIsNot(felled(ROW, 0, 1), felled(ROW, 0, 1))


class Felled(unittest.TestCase):
    def test_to_the_right(self):
        self.assertEqual(felled(ROW, 0, 1), [0, 1])
        self.assertEqual(felled(ROW, 1, 1), [1])
        self.assertEqual(felled(ROW, 2, 1), [2, 3])
        self.assertEqual(felled(ROW, 3, 1), [3])
        self.assertEqual(felled(ROW, 4, 1), [4])

    def test_to_the_left(self):
        self.assertEqual(felled(ROW, 0, -1), [0])
        self.assertEqual(felled(ROW, 1, -1), [0, 1])
        self.assertEqual(felled(ROW, 2, -1), [0, 1, 2])
        self.assertEqual(felled(ROW, 3, -1), [3])
        self.assertEqual(felled(ROW, 4, -1), [0, 1, 2, 3, 4])

    def test_just_within_reach(self):
        self.assertEqual(felled([(0, 5), (5, 1)], 0, 1), [0, 1])
        self.assertEqual(felled([(0, 1), (5, 5)], 1, -1), [0, 1])

    def test_just_beyond_reach(self):
        self.assertEqual(felled([(0, 5), (6, 1)], 0, 1), [0])
        self.assertEqual(felled([(0, 1), (6, 5)], 1, -1), [1])

    def test_the_height_of_the_falling_stone_counts_alone(self):
        self.assertEqual(felled([(0, 1), (2, 9)], 0, 1), [0])
        self.assertEqual(felled([(0, 9), (2, 1)], 1, -1), [1])

    def test_reached_only_through_a_taller_one_behind_the_next(self):
        self.assertEqual(felled([(0, 2), (1, 1), (2, 4), (6, 1), (8, 1)], 0, 1), [0, 1, 2, 3])
        self.assertEqual(felled([(-8, 1), (-6, 1), (-2, 4), (-1, 1), (0, 2)], 4, -1), [1, 2, 3, 4])

    def test_a_low_stone_within_a_tall_ones_reach_shortens_nothing(self):
        self.assertEqual(felled([(0, 9), (1, 1), (9, 1), (10, 1), (12, 1)], 0, 1), [0, 1, 2, 3])
        self.assertEqual(felled([(-12, 1), (-10, 1), (-9, 1), (-1, 1), (0, 9)], 4, -1), [1, 2, 3, 4])

    def test_at_the_ends_away_from_the_row(self):
        self.assertEqual(felled([(0, 99), (1, 99)], 1, 1), [1])
        self.assertEqual(felled([(0, 99), (1, 99)], 0, -1), [0])

    def test_stones_on_the_other_side_stand(self):
        self.assertEqual(felled([(0, 9), (1, 9), (2, 9)], 1, 1), [1, 2])
        self.assertEqual(felled([(0, 9), (1, 9), (2, 9)], 1, -1), [0, 1])

    def test_a_row_of_one_stone(self):
        for stone in ((0, 1), (-7, 3), (HUGE, HUGE)):
            self.assertEqual(felled([stone], 0, 1), [0])
            self.assertEqual(felled([stone], 0, -1), [0])

    def test_numbers_of_any_size(self):
        within = [(-HUGE, 2 * HUGE), (0, 1), (HUGE, 2 * HUGE)]
        self.assertEqual(felled(within, 0, 1), [0, 1, 2])
        self.assertEqual(felled(within, 2, -1), [0, 1, 2])
        beyond = [(-HUGE, 2 * HUGE - 1), (0, 1), (HUGE, 2 * HUGE - 1)]
        self.assertEqual(felled(beyond, 0, 1), [0, 1])
        self.assertEqual(felled(beyond, 2, -1), [1, 2])

    def test_places_that_only_whole_numbers_tell_apart(self):
        far = 2 ** 53
        self.assertEqual(felled([(far, 1), (far + 2, 1), (far + 3, 1)], 0, 1), [0])
        self.assertEqual(felled([(far, 1), (far + 1, 1), (far + 3, 1)], 2, -1), [2])

    def test_a_long_row(self):
        count = 20000
        row = [(place, 1) for place in range(count)]
        # Not by assertEqual: told apart, lists of this length take it hours to show.
        self.assertTrue(felled(row, 0, 1) == list(range(count)))
        self.assertTrue(felled(row, count - 1, -1) == list(range(count)))
        self.assertTrue(felled(row, 7, 1) == list(range(7, count)))
        self.assertTrue(felled(row, 7, -1) == list(range(8)))

    def test_kinds(self):
        for side in (1, -1):
            told = felled(ROW, 2, side)
            self.assertIs(type(told), list)
            self.assertTrue(all(type(stone) is int for stone in told))

    def test_small_rows_by_the_words_of_the_document(self):
        for row in small_rows():
            for stone in range(len(row)):
                for side in (1, -1):
                    self.assertEqual(
                        felled(row, stone, side), felled_by_the_words(row, stone, side), (row, stone, side))


class Mirrored(unittest.TestCase):
    def test_of_none(self):
        self.assertEqual(mirrored([]), [])

    def test_of_one(self):
        self.assertEqual(mirrored([(3, 2)]), [(-3, 2)])
        self.assertEqual(mirrored([(-3, 2)]), [(3, 2)])
        self.assertEqual(mirrored([(0, 2)]), [(0, 2)])

    def test_of_several(self):
        self.assertEqual(mirrored(ROW), [(-5, 9), (-3, 1), (0, 3), (3, 1), (4, 2)])

    def test_numbers_of_any_size(self):
        # Not by assertEqual: numbers of this size can't be shown.
        self.assertTrue(mirrored([(-HUGE, 1), (HUGE + 1, HUGE)]) == [(-HUGE - 1, HUGE), (HUGE, 1)])

    def test_a_long_row(self):
        row = [(place, place + 1) for place in range(20000)]
        # Not by assertEqual: told apart, lists of this length take it hours to show.
        self.assertTrue(mirrored(row) == [(-place, place + 1) for place in range(19999, -1, -1)])

    def test_twice(self):
        self.assertEqual(mirrored(mirrored(ROW)), ROW)
        for row in small_rows():
            self.assertEqual(mirrored(mirrored(row)), row)

    def test_kinds(self):
        told = mirrored(ROW)
        self.assertIs(type(told), list)
        self.assertTrue(all(type(stone) is tuple for stone in told))

    def test_falls_go_to_the_other_side(self):
        for row in [ROW] + list(small_rows()):
            turned = mirrored(row)
            last = len(row) - 1
            for stone in range(len(row)):
                for side in (1, -1):
                    there = felled(turned, last - stone, -side)
                    self.assertEqual(felled(row, stone, side), [last - k for k in reversed(there)])


if __name__ == "__main__":
    unittest.main()
