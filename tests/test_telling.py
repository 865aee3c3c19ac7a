import copy
import itertools
import unittest

from fallrow.answers import Answer, Chain, Fewest, Higher, Rights, Stands
from fallrow.errors import BadRow, BadSide, BadStone
from fallrow.rows import felled, mirrored
from fallrow.telling import fewest, higher, reached, rights
from tests.common import (
    BAD_SIDES, HUGE, NO_PAIRS, Refusing, Unequal, bad_rows, bad_stones, every_push, felled_by_the_words,
    fewest_by_search, is_chain, is_fewest, is_higher, is_place_of_standing, least_by_search, rights_by_the_words,
    small_rows,
)

ROW = [(-4, 2), (-3, 1), (0, 3), (3, 1), (5, 9)]

# To the right 0 fells 1, 2 and 3; to the left 4 fells 3 alone.
LINE = [(0, 2), (1, 1), (2, 4), (6, 1), (8, 2)]


def longer_rows():
    """Rows of five and six, where falls to both sides cross one another."""
    for places in ((0, 1, 3, 4, 6), (-5, -3, 0, 4, 5), (0, 2, 4, 6, 8), (0, 1, 2, 4, 7)):
        for heights in itertools.product((1, 2, 4), repeat=5):
            yield list(zip(places, heights))
    for heights in itertools.product((1, 2, 3), repeat=6):
        yield list(zip((-4, -2, 0, 1, 4, 6), heights))


class BadRows(Refusing):
    def test_reached_refuses(self):
        for row in bad_rows():
            self.refused(BadRow, reached, row, (0, 1), 0)
            self.refused(BadRow, reached, row, (0, -1), 0)

    def test_fewest_refuses(self):
        for row in bad_rows():
            self.refused(BadRow, fewest, row)

    def test_rights_refuses(self):
        for row in bad_rows():
            self.refused(BadRow, rights, row)

    def test_higher_refuses(self):
        for row in bad_rows():
            self.refused(BadRow, higher, row, 0)

    def test_a_fault_that_the_push_would_not_meet_is_refused(self):
        for row in ([(0, 1), (9, 1), (8, 1)], [(0, 1), (9, 1), (20, 0)], [(0, 1), (9, 1), None]):
            self.refused(BadRow, reached, row, (0, 1), 0)
            self.refused(BadRow, reached, row, (1, -1), 0)
        for row in ([(0, 1), (0, 1), (5, 1)], [(0, 0), (2, 1), (5, 1)], [None, (2, 1), (5, 1)]):
            self.refused(BadRow, higher, row, 2)


class BadPushes(Refusing):
    def test_no_pair(self):
        for push in NO_PAIRS + [[0, -1], (0, 1, 1), ((0, 1), 0, 1), (0,), ()]:
            self.refused(BadStone, reached, ROW, push, 0)

    def test_no_stone(self):
        for stone in bad_stones(len(ROW)):
            self.refused(BadStone, reached, ROW, (stone, 1), 0)
            self.refused(BadStone, reached, ROW, (stone, -1), 0)

    def test_no_side(self):
        for side in BAD_SIDES:
            for stone in range(len(ROW)):
                self.refused(BadSide, reached, ROW, (stone, side), 0)
                self.refused(BadSide, reached, ROW, (stone, side), stone)

    def test_a_row_of_none_has_no_push(self):
        for stone in bad_stones(0):
            self.refused(BadStone, reached, [], (stone, 1), 0)


class BadStones(Refusing):
    def test_reached_refuses(self):
        for stone in bad_stones(len(ROW)):
            for push in every_push(ROW):
                self.refused(BadStone, reached, ROW, push, stone)

    def test_higher_refuses(self):
        for row in (ROW, [(5, 5)], []):
            for stone in bad_stones(len(row)):
                self.refused(BadStone, higher, row, stone)


class TheFirstToldRefusal(Refusing):
    def test_the_row_is_ahead_of_all(self):
        for row in bad_rows():
            self.refused(BadRow, reached, row, None, 0)
            self.refused(BadRow, reached, row, (-1, 1), 0)
            self.refused(BadRow, reached, row, (0, 0), 0)
            self.refused(BadRow, reached, row, (0, 1), -1)
            self.refused(BadRow, reached, row, Unequal(), Unequal())
            self.refused(BadRow, higher, row, -1)
            self.refused(BadRow, higher, row, None)

    def test_the_pushed_stone_is_ahead_of_the_side(self):
        for stone in bad_stones(len(ROW)):
            for side in (0, True, None, Unequal()):
                self.refused(BadStone, reached, ROW, (stone, side), 0)

    def test_the_side_is_ahead_of_the_stone(self):
        for side in BAD_SIDES:
            for stone in (-1, 5, True, None, Unequal()):
                self.refused(BadSide, reached, ROW, (0, side), stone)


class NothingChangedOrKept(Refusing):
    def calls(self, row):
        return (
            lambda: reached(row, (0, 1), 1), lambda: reached(row, (0, 1), 2), lambda: reached(row, (4, -1), 0),
            lambda: reached(row, (2, 1), 2), lambda: fewest(row), lambda: rights(row),
            lambda: higher(row, 0), lambda: higher(row, 4),
        )

    def test_what_is_handed_in_is_as_it_was(self):
        row = list(ROW)
        push = (4, -1)
        for call in self.calls(row):
            call()
        reached(row, push, 0)
        self.assertEqual((row, push), (ROW, (4, -1)))
        self.assertTrue(all(one is other for one, other in zip(row, ROW)))

    def test_a_refused_row_is_as_it_was(self):
        for row in ([(0, 1), (2, 1), (1, 1)], [(0, 1), [1, 1]], [(0, 1), None]):
            before = copy.deepcopy(row)
            for call in self.calls(row):
                self.refused(BadRow, call)
            self.assertEqual(row, before)

    def test_a_refused_push_is_as_it_was(self):
        push = [0, 1]
        self.refused(BadStone, reached, ROW, push, 0)
        self.assertEqual(push, [0, 1])

    def test_changing_what_was_told_changes_nothing(self):
        for row in (ROW, [(3 * k, 1) for k in range(5)]):
            for call in self.calls(row):
                told = call()
                kept = copy.deepcopy(vars(told))
                for field in vars(told).values():
                    if isinstance(field, list):
                        field.append("more")
                        field.reverse()
                self.assertEqual(vars(call()), kept)

    def test_changing_what_was_handed_in_changes_nothing_told(self):
        row = list(ROW)
        told = [call() for call in self.calls(row)]
        kept = [copy.deepcopy(vars(answer)) for answer in told]
        row[2] = (1, 1)
        row.append((99, 1))
        self.assertEqual([vars(answer) for answer in told], kept)

    def test_a_row_that_was_changed_is_told_anew(self):
        row = [(0, 1), (1, 1), (2, 1)]
        self.assertIsInstance(reached(row, (0, 1), 2), Chain)
        self.assertEqual(len(fewest(row).pushes), 1)
        self.assertEqual(rights(row).stones, [0])
        self.assertEqual(higher(row, 0).number, 0)
        row[2] = (7, 1)
        self.assertIsInstance(reached(row, (0, 1), 2), Stands)
        self.assertEqual(len(fewest(row).pushes), 2)
        self.assertEqual(rights(row).stones, [0, 2])
        self.assertEqual((higher(row, 0).number, higher(row, 0).stone), (5, 2))

    def test_what_is_told_is_new(self):
        for call in self.calls(ROW):
            one, other = call(), call()
            self.assertIsNot(one, other)
            for name, field in vars(one).items():
                if isinstance(field, list):
                    self.assertIsNot(field, vars(other)[name])
        self.assertIsNot(fewest([]).pushes, fewest([]).stones)
        self.assertIsNot(rights([]).stones, rights([]).stones)


class Kinds(unittest.TestCase):
    def numbers(self, told):
        self.assertIs(type(told), list)
        self.assertTrue(all(type(number) is int for number in told))

    def test_each_is_an_answer_of_its_class(self):
        self.assertIs(type(reached(ROW, (0, 1), 1)), Chain)
        self.assertIs(type(reached(ROW, (0, 1), 2)), Stands)
        self.assertIs(type(fewest(ROW)), Fewest)
        self.assertIs(type(rights(ROW)), Rights)
        self.assertIs(type(higher(ROW, 0)), Higher)
        for told in (reached(ROW, (0, 1), 1), reached(ROW, (0, 1), 2), fewest(ROW), rights(ROW), higher(ROW, 0)):
            self.assertIsInstance(told, Answer)

    def test_fields(self):
        for row in (ROW, LINE, []):
            self.numbers(rights(row).stones)
            self.numbers(fewest(row).stones)
            self.assertIs(type(fewest(row).pushes), list)
            for push in fewest(row).pushes:
                self.assertIs(type(push), tuple)
                self.numbers(list(push))
        self.numbers(reached(ROW, (4, -1), 0).stones)
        self.numbers(reached(ROW, (4, -1), 4).stones)
        self.numbers([reached(ROW, (0, 1), 4).place, higher(ROW, 0).number, higher(ROW, 0).stone])
        self.assertIsNone(higher(ROW, 4).stone)

    def test_arguments_by_name(self):
        self.assertEqual(reached(row=ROW, push=(0, 1), stone=1).stones, [0, 1])
        self.assertEqual(len(fewest(row=ROW).pushes), 1)
        self.assertEqual(rights(row=ROW).stones, [0, 2, 4])
        self.assertEqual(higher(row=ROW, stone=2).number, 1)


class Reached(unittest.TestCase):
    def told(self, row, push, stone):
        answer = reached(row, push, stone)
        self.assertIs(answer.shows(row, push, stone), True)
        return answer

    def chain(self, row, push, stone):
        answer = self.told(row, push, stone)
        self.assertIs(type(answer), Chain)
        self.assertTrue(is_chain(row, push, stone, answer.stones))
        return answer.stones

    def place(self, row, push, stone):
        answer = self.told(row, push, stone)
        self.assertIs(type(answer), Stands)
        self.assertTrue(is_place_of_standing(row, push, stone, answer.place))
        return answer.place

    def test_chains_to_the_right(self):
        self.assertEqual(self.chain(LINE, (0, 1), 1), [0, 1])
        self.assertIn(self.chain(LINE, (0, 1), 3), ([0, 2, 3], [0, 1, 2, 3]))
        self.assertEqual(self.chain(LINE, (2, 1), 3), [2, 3])

    def test_chains_to_the_left(self):
        self.assertEqual(self.chain(LINE, (4, -1), 3), [4, 3])
        self.assertIn(self.chain(LINE, (2, -1), 0), ([2, 0], [2, 1, 0]))
        self.chain(ROW, (4, -1), 0)

    def test_a_chain_through_a_taller_one_behind_the_next(self):
        row = [(0, 2), (1, 1), (2, 9), (3, 1), (11, 3), (14, 1)]
        self.assertIn(2, self.chain(row, (0, 1), 4))
        self.assertEqual(self.chain(row, (0, 1), 5)[-2:], [4, 5])
        turned = mirrored(row)
        self.assertIn(3, self.chain(turned, (5, -1), 1))
        self.assertEqual(self.chain(turned, (5, -1), 0)[-2:], [1, 0])

    def test_places_to_the_right(self):
        self.assertEqual(self.place(LINE, (0, 1), 4), 7)
        self.assertIn(self.place([(0, 2), (1, 1), (5, 1)], (0, 1), 2), (2, 3, 4))

    def test_places_to_the_left(self):
        self.assertIn(self.place(LINE, (4, -1), 2), (5, 4, 3))
        self.assertIn(self.place([(-5, 1), (-1, 1), (0, 2)], (2, -1), 0), (-2, -3, -4))

    def test_the_pushed_stone_itself(self):
        for row in (ROW, LINE, [(7, 1)]):
            for push in every_push(row):
                self.assertEqual(self.chain(row, push, push[0]), [push[0]])

    def test_the_stone_beside(self):
        self.assertEqual(self.chain([(0, 1), (1, 1)], (0, 1), 1), [0, 1])
        self.assertEqual(self.chain([(0, 1), (1, 1)], (1, -1), 0), [1, 0])
        self.assertEqual(self.place([(0, 1), (2, 1)], (0, 1), 1), 1)
        self.assertEqual(self.place([(0, 1), (2, 1)], (1, -1), 0), 1)

    def test_a_stone_on_the_other_side(self):
        row = [(0, 9), (1, 9), (2, 9)]
        self.place(row, (1, 1), 0)
        self.place(row, (1, -1), 2)
        self.place(row, (2, 1), 0)
        self.place(row, (0, -1), 2)

    def test_just_within_and_just_beyond_reach(self):
        self.assertEqual(self.chain([(0, 5), (5, 1)], (0, 1), 1), [0, 1])
        self.assertEqual(self.place([(0, 5), (6, 1)], (0, 1), 1), 5)
        self.assertEqual(self.chain([(0, 1), (5, 5)], (1, -1), 0), [1, 0])
        self.assertEqual(self.place([(0, 1), (6, 5)], (1, -1), 0), 1)

    def test_a_low_stone_within_a_tall_ones_reach_shortens_nothing(self):
        row = [(0, 9), (1, 1), (9, 1), (10, 1), (12, 1)]
        self.assertEqual(self.chain(row, (0, 1), 3), [0, 2, 3])
        self.assertEqual(self.place(row, (0, 1), 4), 11)

    def test_numbers_of_any_size(self):
        within = [(-HUGE, 2 * HUGE), (0, 1), (HUGE, 2 * HUGE)]
        self.assertEqual(self.chain(within, (0, 1), 2), [0, 2])
        self.assertEqual(self.chain(within, (2, -1), 0), [2, 0])
        beyond = [(-HUGE, 2 * HUGE - 1), (0, 1), (HUGE, 2 * HUGE - 1)]
        self.assertTrue(self.place(beyond, (0, 1), 2) == HUGE - 1)
        self.assertTrue(self.place(beyond, (2, -1), 0) == -HUGE + 1)

    def test_a_long_row(self):
        count = 20000
        row = [(place, 1) for place in range(count)]
        # Not by assertEqual: told apart, lists of this length take it hours to show.
        self.assertTrue(self.chain(row, (0, 1), count - 1) == list(range(count)))
        self.assertTrue(self.chain(row, (count - 1, -1), 0) == list(range(count - 1, -1, -1)))

    def test_small_rows_by_the_words_of_the_document(self):
        for row in itertools.chain(small_rows(), [ROW, LINE]):
            for push in every_push(row):
                fallen = felled_by_the_words(row, *push)
                self.assertEqual(felled(row, *push), fallen)
                for stone in range(len(row)):
                    answer = self.told(row, push, stone)
                    self.assertIs(type(answer), Chain if stone in fallen else Stands, (row, push, stone))
                    if stone in fallen:
                        self.assertTrue(is_chain(row, push, stone, answer.stones), (row, push, stone))
                    else:
                        self.assertTrue(is_place_of_standing(row, push, stone, answer.place), (row, push, stone))


class FewestPushes(unittest.TestCase):
    def told(self, row):
        answer = fewest(row)
        self.assertIs(answer.shows(row), True)
        self.assertTrue(is_fewest(row, answer.pushes, answer.stones), (row, vars(answer)))
        return answer

    def test_of_none(self):
        answer = self.told([])
        self.assertEqual((answer.pushes, answer.stones), ([], []))

    def test_of_one(self):
        answer = self.told([(-7, 2)])
        self.assertIn(answer.pushes, ([(0, 1)], [(0, -1)]))
        self.assertEqual(answer.stones, [0])

    def test_one_push_to_the_right_fells_all(self):
        self.assertEqual(self.told([(0, 2), (2, 3), (5, 1)]).pushes, [(0, 1)])

    def test_one_push_to_the_left_fells_all(self):
        self.assertEqual(self.told([(0, 1), (3, 3), (5, 2)]).pushes, [(2, -1)])
        self.assertEqual(self.told(ROW).pushes, [(4, -1)])

    def test_a_push_to_the_left_and_one_to_the_right_are_needed(self):
        row = [(0, 1), (3, 3), (10, 3), (13, 1)]
        self.assertEqual(sorted(self.told(row).pushes), [(1, -1), (2, 1)])
        row = [(0, 3), (3, 1), (10, 1), (13, 3)]
        self.assertEqual(sorted(self.told(row).pushes), [(0, 1), (3, -1)])

    def test_falls_of_both_sides_that_cross(self):
        # 2 and 3 fall by the push of 1 to the right and by that of 4 to the left.
        row = [(0, 1), (5, 5), (9, 1), (10, 1), (16, 7), (25, 1)]
        self.assertEqual(len(self.told(row).pushes), 3)

    def test_each_stone_alone(self):
        row = [(3 * k, 2) for k in range(7)]
        answer = self.told(row)
        self.assertEqual(sorted(stone for stone, side in answer.pushes), list(range(7)))
        self.assertEqual(sorted(answer.stones), list(range(7)))

    def test_numbers_of_any_size(self):
        row = [(-HUGE, HUGE), (0, HUGE - 1), (HUGE, HUGE - 1)]
        self.assertEqual([stone for stone, side in sorted(self.told(row).pushes)], [0, 2])

    def test_long_rows(self):
        count = 20000
        for row, pushes in (
            ([(3 * k, 1) for k in range(count)], count),
            ([(k, 1) for k in range(count)], 1),
            ([(k, count) for k in range(count)], 1),
            ([(4 * k - k % 2, 3) for k in range(count)], count // 2),
        ):
            answer = fewest(row)
            self.assertEqual((len(answer.pushes), len(answer.stones)), (pushes, pushes))
            self.assertIs(answer.shows(row), True)

    def test_small_rows_by_the_words_of_the_document(self):
        for row in itertools.chain(small_rows(), longer_rows()):
            answer = self.told(row)
            self.assertEqual(len(answer.pushes), fewest_by_search(row), row)

    def test_no_more_are_needed_in_the_row_mirrored(self):
        for row in longer_rows():
            self.assertEqual(len(fewest(row).pushes), len(fewest(mirrored(row)).pushes), row)


class RightPushes(unittest.TestCase):
    def told(self, row):
        answer = rights(row)
        self.assertIs(answer.shows(row), True)
        return answer.stones

    def test_of_none(self):
        self.assertEqual(self.told([]), [])

    def test_of_one(self):
        self.assertEqual(self.told([(-7, 2)]), [0])

    def test_of_many(self):
        self.assertEqual(self.told(ROW), [0, 2, 4])
        self.assertEqual(self.told(LINE), [0, 4])
        self.assertEqual(self.told([(3 * k, 2) for k in range(5)]), [0, 1, 2, 3, 4])
        self.assertEqual(self.told([(3 * k, 3) for k in range(5)]), [0])

    def test_a_tall_one_ahead_of_a_low_one(self):
        self.assertEqual(self.told([(0, 5), (1, 1), (5, 1), (7, 1)]), [0, 3])

    def test_falls_to_the_left_do_not_count(self):
        self.assertEqual(self.told([(0, 1), (5, 9), (20, 99)]), [0, 1, 2])

    def test_numbers_of_any_size(self):
        self.assertEqual(self.told([(-HUGE, HUGE), (0, HUGE - 1), (HUGE, 1)]), [0, 2])

    def test_a_long_row(self):
        row = [(3 * k, 1) for k in range(20000)]
        self.assertTrue(self.told(row) == list(range(20000)))

    def test_small_rows_by_the_words_of_the_document(self):
        for row in itertools.chain(small_rows(), longer_rows()):
            stones = self.told(row)
            self.assertEqual(stones, rights_by_the_words(row), row)
            fallen = {k for stone in stones for k in felled_by_the_words(row, stone, 1)}
            self.assertEqual(fallen, set(range(len(row))), row)


class HigherStones(unittest.TestCase):
    def told(self, row, stone):
        answer = higher(row, stone)
        self.assertIs(answer.shows(row, stone), True)
        return answer

    def test_the_last_stone(self):
        for row in (ROW, LINE, [(7, 1)], [(0, 1), (9, 1)]):
            answer = self.told(row, len(row) - 1)
            self.assertEqual((answer.number, answer.stone), (0, None))

    def test_a_number_of_0(self):
        for stone in range(3):
            answer = self.told([(0, 1), (1, 4), (5, 1)], stone)
            self.assertEqual((answer.number, answer.stone), (0, None))

    def test_a_number_above_0(self):
        answer = self.told([(0, 1), (9, 1)], 0)
        self.assertEqual((answer.number, answer.stone), (8, 1))
        answer = self.told(LINE, 0)
        self.assertEqual((answer.number, answer.stone), (1, 4))
        answer = self.told(ROW, 0)
        self.assertEqual(answer.number, 2)
        self.assertIn(answer.stone, (2, 3, 4))
        answer = self.told(ROW, 2)
        self.assertEqual((answer.number, answer.stone), (1, 4))

    def test_what_is_ahead_of_the_stone_does_not_count(self):
        self.assertEqual(self.told([(0, 99), (1, 1), (5, 1)], 1).number, 3)
        self.assertEqual(self.told([(0, 1), (50, 1), (51, 1)], 1).number, 0)

    def test_a_reach_over_many_stones(self):
        answer = self.told([(0, 9), (1, 1), (2, 1), (12, 1)], 0)
        self.assertEqual((answer.number, answer.stone), (3, 3))

    def test_gaps_of_the_same_width(self):
        answer = self.told([(0, 1), (4, 1), (8, 1), (11, 1)], 0)
        self.assertEqual(answer.number, 3)
        self.assertIn(answer.stone, (1, 2, 3))

    def test_the_told_stone_stands_with_one_less(self):
        for row in small_rows():
            for stone in range(len(row)):
                answer = self.told(row, stone)
                if answer.number:
                    less = [(place, height + answer.number - 1) for place, height in row]
                    self.assertGreater(answer.stone, stone)
                    self.assertNotIn(answer.stone, felled_by_the_words(less, stone, 1))

    def test_numbers_of_any_size(self):
        answer = higher([(-HUGE, 1), (HUGE, 1)], 0)
        self.assertTrue(answer.number == 2 * HUGE - 1)
        self.assertEqual(answer.stone, 1)
        self.assertIs(answer.shows([(-HUGE, 1), (HUGE, 1)], 0), True)

    def test_a_long_row(self):
        row = [(3 * k, 1) for k in range(20000)]
        self.assertEqual(self.told(row, 0).number, 2)

    def test_small_rows_by_the_words_of_the_document(self):
        for row in itertools.chain(small_rows(), longer_rows()):
            for stone in range(len(row)):
                answer = self.told(row, stone)
                self.assertEqual(answer.number, least_by_search(row, stone), (row, stone))
                self.assertTrue(is_higher(row, stone, answer.number, answer.stone), (row, stone))


if __name__ == "__main__":
    unittest.main()
