import copy
import itertools
import unittest

from fallrow.answers import Answer, Chain, Fewest, Higher, Rights, Stands
from tests.common import (
    HUGE, every_push, few_rows, is_chain, is_fewest, is_higher, is_place_of_standing, lists_of, rights_by_the_words,
)

ROW = [(-4, 2), (-3, 1), (0, 3), (3, 1), (5, 9)]

# To the right 0 fells 1, 2 and 3; to the left 4 fells 3 alone.
LINE = [(0, 2), (1, 1), (2, 4), (6, 1), (8, 2)]


class Showing(unittest.TestCase):
    def is_shown(self, answer, *given):
        self.assertIs(answer.shows(*given), True, (vars(answer), given))

    def is_not_shown(self, answer, *given):
        # The numbers may be too great to be shown in a message.
        self.assertIs(answer.shows(*given), False)


class Classes(unittest.TestCase):
    def test_each_stands_straight_under_answer(self):
        for answer in (Chain, Stands, Fewest, Rights, Higher):
            self.assertEqual(answer.__bases__, (Answer,))

    def test_answer_is_a_class_of_its_own(self):
        self.assertEqual(Answer.__bases__, (object,))

    def test_fields(self):
        self.assertEqual(Chain([0, 1]).stones, [0, 1])
        self.assertEqual(Stands(-7).place, -7)
        self.assertEqual(Fewest([(0, 1), (2, -1)], [0, 2]).pushes, [(0, 1), (2, -1)])
        self.assertEqual(Fewest([(0, 1), (2, -1)], [0, 2]).stones, [0, 2])
        self.assertEqual(Rights([0, 3]).stones, [0, 3])
        self.assertEqual(Higher(4, 2).number, 4)
        self.assertEqual(Higher(4, 2).stone, 2)
        self.assertIsNone(Higher(0, None).stone)

    def test_fields_are_taken_as_they_are_also_where_they_show_nothing(self):
        self.assertEqual(Chain([9, -9, 9]).stones, [9, -9, 9])
        self.assertEqual(Fewest([(9, 9), (9, 9)], [-1]).pushes, [(9, 9), (9, 9)])
        self.assertEqual(Fewest([(9, 9), (9, 9)], [-1]).stones, [-1])
        self.assertEqual(Rights([3, 0, 3]).stones, [3, 0, 3])
        self.assertEqual((Higher(-4, -2).number, Higher(-4, -2).stone), (-4, -2))
        self.assertEqual((Higher(4, None).number, Higher(4, None).stone), (4, None))
        self.assertEqual((Higher(0, 2).number, Higher(0, 2).stone), (0, 2))

    def test_arguments_by_name(self):
        self.assertIs(Chain(stones=[0]).shows(row=ROW, push=(0, 1), stone=0), True)
        self.assertIs(Stands(place=-2).shows(row=ROW, push=(0, 1), stone=2), True)
        self.assertIs(Fewest(pushes=[(4, -1)], stones=[0]).shows(row=ROW), True)
        self.assertIs(Rights(stones=[0, 2, 4]).shows(row=ROW), True)
        self.assertIs(Higher(number=1, stone=4).shows(row=ROW, stone=2), True)


class ListsAreCopied(unittest.TestCase):
    def test_fields_are_not_the_lists_handed_in(self):
        for stones in ([], [0], [0, 1]):
            pushes = [(stone, 1) for stone in stones]
            self.assertIsNot(Chain(stones).stones, stones)
            self.assertIsNot(Rights(stones).stones, stones)
            self.assertIsNot(Fewest(pushes, stones).stones, stones)
            self.assertIsNot(Fewest(pushes, stones).pushes, pushes)

    def test_changing_the_lists_handed_in_changes_no_field(self):
        stones, pushes = [0, 1], [(0, 1), (1, -1)]
        answers = [Chain(stones), Rights(stones), Fewest(pushes, stones)]
        stones.append(2)
        pushes.clear()
        for answer in answers:
            self.assertEqual(answer.stones, [0, 1])
        self.assertEqual(answers[2].pushes, [(0, 1), (1, -1)])

    def test_changing_a_field_changes_no_list_handed_in(self):
        stones, pushes = [0, 1], [(0, 1), (1, -1)]
        for answer in (Chain(stones), Rights(stones), Fewest(pushes, stones)):
            answer.stones.append(2)
        Fewest(pushes, stones).pushes.clear()
        self.assertEqual((stones, pushes), ([0, 1], [(0, 1), (1, -1)]))

    def test_one_answer_does_not_change_another(self):
        stones = [0]
        one, other = Chain(stones), Chain(stones)
        one.stones.append(1)
        self.assertEqual(other.stones, [0])


class FieldsAsTheyStandThen(Showing):
    def test_chain(self):
        answer = Chain([0, 1])
        self.is_shown(answer, ROW, (0, 1), 1)
        answer.stones.append(2)
        self.is_not_shown(answer, ROW, (0, 1), 1)
        answer.stones = [0]
        self.is_not_shown(answer, ROW, (0, 1), 1)
        self.is_shown(answer, ROW, (0, 1), 0)

    def test_stands(self):
        answer = Stands(-2)
        self.is_shown(answer, ROW, (0, 1), 2)
        answer.place = 0
        self.is_not_shown(answer, ROW, (0, 1), 2)
        answer.place = -1
        self.is_shown(answer, ROW, (0, 1), 2)

    def test_fewest(self):
        answer = Fewest([(4, -1)], [0])
        self.is_shown(answer, ROW)
        answer.pushes[0] = (4, 1)
        self.is_not_shown(answer, ROW)
        answer.pushes = [(4, -1)]
        self.is_shown(answer, ROW)
        answer.stones[0] = 5
        self.is_not_shown(answer, ROW)
        answer.stones = [3]
        self.is_shown(answer, ROW)

    def test_rights(self):
        answer = Rights([0, 2, 4])
        self.is_shown(answer, ROW)
        answer.stones.pop()
        self.is_not_shown(answer, ROW)
        answer.stones = [0, 2, 4]
        self.is_shown(answer, ROW)

    def test_higher(self):
        answer = Higher(2, 2)
        self.is_shown(answer, ROW, 0)
        answer.number = 3
        self.is_not_shown(answer, ROW, 0)
        answer.number = 2
        answer.stone = 1
        self.is_not_shown(answer, ROW, 0)
        answer.stone = 4
        self.is_shown(answer, ROW, 0)

    def test_asking_changes_no_field(self):
        for answer, given in (
            (Chain([0, 1]), (ROW, (0, 1), 1)), (Chain([0, 9]), (ROW, (0, 1), 1)),
            (Stands(-2), (ROW, (0, 1), 2)), (Stands(0), (ROW, (0, 1), 2)),
            (Fewest([(4, -1)], [0]), (ROW,)), (Fewest([(3, -1), (0, 1)], [3, 0]), (ROW,)),
            (Rights([0, 2, 4]), (ROW,)), (Rights([4, 2, 0]), (ROW,)),
            (Higher(2, 2), (ROW, 0)), (Higher(0, None), (ROW, 0)),
        ):
            before = copy.deepcopy((vars(answer), given))
            answer.shows(*given)
            answer.shows(*given)
            self.assertEqual((vars(answer), given), before)


class ChainByHand(Showing):
    def test_to_the_right(self):
        self.is_shown(Chain([0, 2, 3]), LINE, (0, 1), 3)
        self.is_shown(Chain([0, 1, 2, 3]), LINE, (0, 1), 3)
        self.is_shown(Chain([0, 1]), LINE, (0, 1), 1)
        self.is_shown(Chain([0, 2]), LINE, (0, 1), 2)

    def test_to_the_left(self):
        self.is_shown(Chain([4, 3]), LINE, (4, -1), 3)
        self.is_shown(Chain([2, 0]), LINE, (2, -1), 0)
        self.is_shown(Chain([2, 1, 0]), LINE, (2, -1), 0)

    def test_of_none(self):
        self.is_not_shown(Chain([]), LINE, (0, 1), 0)
        self.is_not_shown(Chain([]), LINE, (0, 1), 1)

    def test_of_one(self):
        for push in every_push(LINE):
            for stone in range(len(LINE)):
                for told in range(-6, 7):
                    shown = Chain([told]).shows(LINE, push, stone)
                    self.assertIs(shown, told == push[0] and told == stone)

    def test_of_another_first_or_last_stone(self):
        self.is_not_shown(Chain([1, 2, 3]), LINE, (0, 1), 3)
        self.is_not_shown(Chain([2, 3]), LINE, (0, 1), 3)
        self.is_not_shown(Chain([0, 2]), LINE, (0, 1), 3)
        self.is_not_shown(Chain([0, 2, 3]), LINE, (0, 1), 2)
        self.is_not_shown(Chain([3]), LINE, (0, 1), 3)
        self.is_not_shown(Chain([0]), LINE, (0, 1), 3)

    def test_a_step_too_far(self):
        self.is_not_shown(Chain([0, 3]), LINE, (0, 1), 3)
        self.is_not_shown(Chain([0, 1, 3]), LINE, (0, 1), 3)
        self.is_not_shown(Chain([0, 2, 4]), LINE, (0, 1), 4)
        self.is_not_shown(Chain([4, 2]), LINE, (4, -1), 2)

    def test_a_step_just_within_and_just_beyond_reach(self):
        self.is_shown(Chain([0, 1]), [(0, 5), (5, 1)], (0, 1), 1)
        self.is_not_shown(Chain([0, 1]), [(0, 5), (6, 1)], (0, 1), 1)
        self.is_shown(Chain([1, 0]), [(0, 1), (5, 5)], (1, -1), 0)
        self.is_not_shown(Chain([1, 0]), [(0, 1), (6, 5)], (1, -1), 0)

    def test_a_step_to_the_other_side(self):
        self.is_not_shown(Chain([2, 0]), LINE, (2, 1), 0)
        self.is_not_shown(Chain([0, 2]), LINE, (0, -1), 2)
        self.is_not_shown(Chain([0, 2, 1]), LINE, (0, 1), 1)
        self.is_not_shown(Chain([0, 2, 1, 2]), LINE, (0, 1), 2)

    def test_a_stone_that_knocks_over_itself(self):
        self.is_not_shown(Chain([0, 0]), LINE, (0, 1), 0)
        self.is_not_shown(Chain([0, 2, 2]), LINE, (0, 1), 2)
        self.is_not_shown(Chain([0, 0, 2]), LINE, (0, 1), 2)

    def test_counts_that_are_no_stones(self):
        for told in (-1, -2, -3, -4, -5, -6, 5, 6, HUGE, -HUGE):
            self.is_not_shown(Chain([0, told, 3]), LINE, (0, 1), 3)
            self.is_not_shown(Chain([told, 2, 3]), LINE, (0, 1), 3)
            self.is_not_shown(Chain([0, 2, told]), LINE, (0, 1), 3)
            self.is_not_shown(Chain([0, told]), LINE, (0, 1), 3)
            self.is_not_shown(Chain([4, told]), LINE, (4, -1), 3)

    def test_long_ones(self):
        row = [(place, 1) for place in range(20000)]
        stones = list(range(20000))
        self.assertIs(Chain(stones).shows(row, (0, 1), 19999), True)
        self.assertIs(Chain(list(reversed(stones))).shows(row, (19999, -1), 0), True)
        self.assertIs(Chain(stones[:500] + stones[501:]).shows(row, (0, 1), 19999), False)
        self.assertIs(Chain([0] * 20000).shows([(0, 1)], (0, 1), 0), False)

    def test_all_short_ones_by_the_words_of_the_document(self):
        for row in few_rows():
            for stones in lists_of(range(-1, len(row) + 1), 3):
                for push in every_push(row):
                    for stone in range(len(row)):
                        shown = Chain(stones).shows(row, push, stone)
                        self.assertIs(shown, is_chain(row, push, stone, stones), (row, push, stone, stones))


class StandsByHand(Showing):
    def test_just_where_the_reach_ends(self):
        self.is_shown(Stands(7), LINE, (0, 1), 4)
        self.is_shown(Stands(5), LINE, (4, -1), 2)

    def test_one_less(self):
        self.is_not_shown(Stands(6), LINE, (0, 1), 4)
        self.is_not_shown(Stands(6), LINE, (4, -1), 2)

    def test_one_more(self):
        row = [(0, 2), (1, 1), (4, 1)]
        self.is_not_shown(Stands(1), row, (0, 1), 2)
        self.is_shown(Stands(2), row, (0, 1), 2)
        self.is_shown(Stands(3), row, (0, 1), 2)
        turned = [(-4, 1), (-1, 1), (0, 2)]
        self.is_not_shown(Stands(-1), turned, (2, -1), 0)
        self.is_shown(Stands(-2), turned, (2, -1), 0)
        self.is_shown(Stands(-3), turned, (2, -1), 0)

    def test_the_asked_stone_at_the_place_or_between(self):
        row = [(0, 2), (4, 1)]
        self.is_not_shown(Stands(4), row, (0, 1), 1)
        self.is_not_shown(Stands(5), row, (0, 1), 1)
        self.is_not_shown(Stands(99), row, (0, 1), 1)
        turned = [(-4, 1), (0, 2)]
        self.is_not_shown(Stands(-4), turned, (1, -1), 0)
        self.is_not_shown(Stands(-5), turned, (1, -1), 0)
        self.is_not_shown(Stands(-99), turned, (1, -1), 0)

    def test_the_pushed_stone_never_stands(self):
        for push in every_push(LINE):
            for place in range(-30, 31):
                self.is_not_shown(Stands(place), LINE, push, push[0])

    def test_a_felled_stone_never_stands(self):
        for place in range(-30, 31):
            self.is_not_shown(Stands(place), LINE, (0, 1), 3)
            self.is_not_shown(Stands(place), LINE, (4, -1), 3)

    def test_a_stone_on_the_other_side(self):
        row = [(0, 9), (5, 2), (9, 9)]
        self.is_shown(Stands(7), row, (1, 1), 0)
        self.is_shown(Stands(8), row, (1, 1), 0)
        self.is_not_shown(Stands(9), row, (1, 1), 0)
        self.is_shown(Stands(18), row, (1, 1), 0)
        self.is_shown(Stands(3), row, (1, -1), 2)
        self.is_shown(Stands(1), row, (1, -1), 2)
        self.is_not_shown(Stands(0), row, (1, -1), 2)
        self.is_shown(Stands(-9), row, (1, -1), 2)

    def test_a_place_to_the_other_side(self):
        row = [(0, 9), (5, 2), (9, 9)]
        self.is_not_shown(Stands(4), row, (1, 1), 0)
        self.is_not_shown(Stands(4), row, (1, 1), 2)
        self.is_not_shown(Stands(6), row, (1, -1), 0)
        self.is_not_shown(Stands(-99), row, (1, 1), 2)
        self.is_not_shown(Stands(99), row, (1, -1), 0)

    def test_the_place_of_the_pushed_stone_itself(self):
        self.is_not_shown(Stands(5), [(0, 1), (5, 1), (9, 1)], (1, 1), 2)
        self.is_not_shown(Stands(5), [(0, 1), (5, 1), (9, 1)], (1, -1), 0)

    def test_a_stone_met_at_the_place_counts(self):
        row = [(0, 2), (3, 1), (9, 1)]
        self.is_shown(Stands(2), row, (0, 1), 2)
        self.is_not_shown(Stands(3), row, (0, 1), 2)
        self.is_shown(Stands(4), row, (0, 1), 2)

    def test_numbers_of_any_size(self):
        row = [(-HUGE, 5), (HUGE, HUGE)]
        self.is_not_shown(Stands(-HUGE + 4), row, (0, 1), 1)
        self.assertIs(Stands(-HUGE + 5).shows(row, (0, 1), 1), True)
        self.assertIs(Stands(HUGE - 1).shows(row, (0, 1), 1), True)
        self.is_not_shown(Stands(HUGE), row, (0, 1), 1)
        self.assertIs(Stands(0).shows(row, (1, -1), 0), True)
        self.is_not_shown(Stands(1), row, (1, -1), 0)
        self.is_not_shown(Stands(HUGE), LINE, (0, 1), 4)
        self.is_not_shown(Stands(-HUGE), LINE, (0, 1), 4)

    def test_all_near_places_by_the_words_of_the_document(self):
        for row in few_rows():
            for push in every_push(row):
                for stone in range(len(row)):
                    for place in range(-6, 9):
                        shown = Stands(place).shows(row, push, stone)
                        self.assertIs(
                            shown, is_place_of_standing(row, push, stone, place), (row, push, stone, place))


class FewestByHand(Showing):
    # The two in the middle knock over one another, and each of the outer ones falls alone.
    SPREAD = [(0, 1), (4, 1), (5, 1), (10, 1)]

    def test_of_none(self):
        self.is_shown(Fewest([], []), [])
        self.is_not_shown(Fewest([], []), [(0, 1)])
        self.is_not_shown(Fewest([(0, 1)], [0]), [])
        self.is_not_shown(Fewest([(0, 1)], []), [])
        self.is_not_shown(Fewest([], [0]), [])

    def test_of_one(self):
        self.is_shown(Fewest([(0, 1)], [0]), [(7, 1)])
        self.is_shown(Fewest([(0, -1)], [0]), [(7, 1)])

    def test_of_several(self):
        self.is_shown(Fewest([(0, 1), (1, 1), (3, 1)], [0, 1, 3]), self.SPREAD)
        self.is_shown(Fewest([(0, -1), (2, -1), (3, 1)], [0, 2, 3]), self.SPREAD)

    def test_in_any_order(self):
        for pushes in itertools.permutations([(0, 1), (1, 1), (3, -1)]):
            for stones in itertools.permutations([0, 2, 3]):
                self.is_shown(Fewest(list(pushes), list(stones)), self.SPREAD)

    def test_a_push_too_many(self):
        self.is_not_shown(Fewest([(0, 1), (1, 1), (3, 1), (2, 1)], [0, 1, 3]), self.SPREAD)
        self.is_not_shown(Fewest([(0, 1), (1, 1), (3, 1), (3, 1)], [0, 1, 3]), self.SPREAD)
        self.is_not_shown(Fewest([(0, 1), (1, 1), (3, 1), (2, 1)], [0, 1, 3, 2]), self.SPREAD)

    def test_a_push_too_few(self):
        self.is_not_shown(Fewest([(0, 1), (1, 1)], [0, 1, 3]), self.SPREAD)
        self.is_not_shown(Fewest([(0, 1), (1, 1)], [0, 1]), self.SPREAD)
        self.is_not_shown(Fewest([(0, 1), (3, 1)], [0, 3]), self.SPREAD)
        self.is_not_shown(Fewest([(1, 1), (3, 1)], [1, 3]), self.SPREAD)

    def test_a_stone_too_many_or_too_few(self):
        self.is_not_shown(Fewest([(0, 1), (1, 1), (3, 1)], [0, 1]), self.SPREAD)
        self.is_not_shown(Fewest([(0, 1), (1, 1), (3, 1)], [0, 1, 2, 3]), self.SPREAD)

    def test_pushes_by_which_not_all_fall(self):
        self.is_not_shown(Fewest([(0, 1), (2, 1), (3, 1)], [0, 1, 3]), self.SPREAD)
        self.is_not_shown(Fewest([(0, 1), (1, -1), (3, 1)], [0, 1, 3]), self.SPREAD)
        self.is_not_shown(Fewest([(0, 1), (1, 1), (1, 1)], [0, 1, 3]), self.SPREAD)

    def test_a_stone_told_twice(self):
        self.is_not_shown(Fewest([(0, 1), (1, 1), (3, 1)], [0, 1, 1]), self.SPREAD)
        self.is_not_shown(Fewest([(0, 1), (0, -1)], [0, 0]), [(0, 1)])
        self.is_not_shown(Fewest([(0, 1), (0, 1)], [0, 0]), [(0, 1)])

    def test_stones_that_another_push_fells_together(self):
        # Only the push of 2 to the left fells both, and it is not among those told.
        row = [(0, 1), (5, 1), (9, 9)]
        self.is_not_shown(Fewest([(0, 1), (1, 1), (2, 1)], [0, 1, 2]), row)
        self.is_shown(Fewest([(2, -1)], [1]), row)
        # The same to the right.
        row = [(0, 9), (4, 1), (9, 1)]
        self.is_not_shown(Fewest([(0, -1), (1, -1), (2, -1)], [0, 1, 2]), row)
        self.is_shown(Fewest([(0, 1)], [2]), row)

    def test_counts_that_are_no_stones(self):
        for told in (-1, -2, -4, -5, 4, 5, HUGE, -HUGE):
            self.is_not_shown(Fewest([(0, 1), (1, 1), (told, 1)], [0, 1, 3]), self.SPREAD)
            self.is_not_shown(Fewest([(0, 1), (1, 1), (told, -1)], [0, 1, 3]), self.SPREAD)
            self.is_not_shown(Fewest([(0, 1), (1, 1), (3, 1)], [0, 1, told]), self.SPREAD)
            self.is_not_shown(Fewest([(0, 1), (1, 1), (3, 1)], [told, 1, 3]), self.SPREAD)

    def test_sides_that_are_none(self):
        for side in (0, 2, -2, HUGE, -HUGE):
            self.is_not_shown(Fewest([(0, 1), (1, 1), (3, side)], [0, 1, 3]), self.SPREAD)
            self.is_not_shown(Fewest([(0, side), (1, 1), (3, 1)], [0, 1, 3]), self.SPREAD)
            self.is_not_shown(Fewest([(0, side)], [0]), [(0, 1)])

    def test_numbers_among_the_pushes_and_pairs_among_the_stones(self):
        self.is_not_shown(Fewest([0], [0]), [(0, 1)])
        self.is_not_shown(Fewest([(0, 1)], [(0, 1)]), [(0, 1)])

    def test_long_ones(self):
        row = [(3 * k, 1) for k in range(5000)]
        pushes, stones = [(k, 1) for k in range(5000)], list(range(5000))
        self.is_not_shown(Fewest(pushes[1:], stones[1:]), row)
        self.is_not_shown(Fewest(pushes, [0] * 5000), row)
        self.is_not_shown(Fewest([(0, 1)] * 5000, [0] * 5000), [(0, 1)])
        self.assertIs(Fewest(pushes, stones).shows(row), True)

    def test_all_short_ones_by_the_words_of_the_document(self):
        for row in few_rows():
            if len(row) > 2:
                continue
            self.hold(row, range(-1, len(row) + 1), (-2, -1, 0, 1), 2)

    def test_all_of_stones_and_sides_by_the_words_of_the_document(self):
        for row in (
            [(0, 1), (2, 2), (5, 1)], [(0, 1), (2, 2), (4, 1)], [(0, 1), (3, 1), (6, 1)], [(0, 2), (2, 1), (4, 1)],
        ):
            self.hold(row, range(len(row)), (-1, 1), 3)

    def hold(self, row, counts, sides, longest):
        all_stones = list(lists_of(counts, longest))
        for pushes in lists_of(list(itertools.product(counts, sides)), longest):
            for stones in all_stones:
                # Of other lengths a share is enough.
                if len(stones) != len(pushes) and len(stones) > 1:
                    continue
                self.assertIs(Fewest(pushes, stones).shows(row), is_fewest(row, pushes, stones), (row, pushes, stones))


class RightsByHand(Showing):
    def test_of_none(self):
        self.is_shown(Rights([]), [])
        self.is_not_shown(Rights([0]), [])
        self.is_not_shown(Rights([-1]), [])

    def test_of_one(self):
        self.is_shown(Rights([0]), [(5, 2)])
        self.is_not_shown(Rights([]), [(5, 2)])
        self.is_not_shown(Rights([1]), [(5, 2)])
        self.is_not_shown(Rights([-1]), [(5, 2)])

    def test_of_several(self):
        self.is_shown(Rights([0, 2, 4]), ROW)
        self.is_shown(Rights([0, 4]), LINE)

    def test_one_too_many(self):
        self.is_not_shown(Rights([0, 1, 2, 4]), ROW)
        self.is_not_shown(Rights([0, 2, 3, 4]), ROW)

    def test_one_too_few(self):
        self.is_not_shown(Rights([2, 4]), ROW)
        self.is_not_shown(Rights([0, 4]), ROW)
        self.is_not_shown(Rights([0, 2]), ROW)
        self.is_not_shown(Rights([]), ROW)

    def test_not_rising(self):
        for stones in itertools.permutations([0, 2, 4]):
            self.assertIs(Rights(list(stones)).shows(ROW), stones == (0, 2, 4))

    def test_told_twice(self):
        self.is_not_shown(Rights([0, 0, 2, 4]), ROW)
        self.is_not_shown(Rights([0, 2, 4, 4]), ROW)
        self.is_not_shown(Rights([0, 2, 4, 0, 2, 4]), ROW)

    def test_counts_that_are_no_stones(self):
        for told in (-1, -3, -5, -6, 5, 6, HUGE, -HUGE):
            self.is_not_shown(Rights([0, 2, 4, told]), ROW)
            self.is_not_shown(Rights([told, 0, 2, 4]), ROW)
            self.is_not_shown(Rights([0, 2, told]), ROW)
            self.is_not_shown(Rights([told, 2, 4]), ROW)

    def test_all_short_ones_by_the_words_of_the_document(self):
        for row in few_rows():
            right = rights_by_the_words(row)
            for stones in lists_of(range(-1, len(row) + 1), 4):
                self.assertIs(Rights(stones).shows(row), stones == right, (row, stones))


class HigherByHand(Showing):
    # From 0 on the gaps lack 3, 1 and 3.
    GAPS = [(0, 1), (4, 1), (6, 1), (7, 1), (11, 9), (12, 1)]

    def test_where_the_number_is_0(self):
        self.is_shown(Higher(0, None), [(0, 1)], 0)
        self.is_shown(Higher(0, None), self.GAPS, 5)
        self.is_shown(Higher(0, None), self.GAPS, 4)
        self.is_not_shown(Higher(0, None), self.GAPS, 3)
        self.is_not_shown(Higher(0, None), self.GAPS, 0)

    def test_a_stone_where_it_is_0(self):
        for stone in range(-7, 8):
            self.is_not_shown(Higher(0, stone), self.GAPS, 4)
            self.is_not_shown(Higher(0, stone), self.GAPS, 5)
            self.is_not_shown(Higher(0, stone), self.GAPS, 0)

    def test_where_the_number_is_above_0(self):
        self.is_shown(Higher(3, 1), self.GAPS, 0)
        self.is_shown(Higher(3, 4), self.GAPS, 1)
        self.is_shown(Higher(3, 4), self.GAPS, 3)

    def test_the_number_one_more_or_less(self):
        for stone in [None] + list(range(6)):
            self.is_not_shown(Higher(2, stone), self.GAPS, 0)
            self.is_not_shown(Higher(4, stone), self.GAPS, 0)
            self.is_not_shown(Higher(2, stone), self.GAPS, 3)
            self.is_not_shown(Higher(4, stone), self.GAPS, 3)

    def test_a_number_above_0_where_none_is_needed(self):
        for stone in [None] + list(range(6)):
            self.is_not_shown(Higher(1, stone), self.GAPS, 4)
            self.is_not_shown(Higher(1, stone), self.GAPS, 5)

    def test_another_stone(self):
        # With one less 2 and 3 fall, and all behind them stand.
        self.is_not_shown(Higher(3, 2), self.GAPS, 1)
        self.is_not_shown(Higher(3, 3), self.GAPS, 1)
        self.is_shown(Higher(3, 4), self.GAPS, 1)
        self.is_shown(Higher(3, 5), self.GAPS, 1)

    def test_a_stone_ahead_of_the_pushed_one_or_itself(self):
        self.is_not_shown(Higher(3, 0), self.GAPS, 1)
        self.is_not_shown(Higher(3, 1), self.GAPS, 1)
        self.is_not_shown(Higher(3, 0), self.GAPS, 0)
        self.is_not_shown(Higher(3, 0), self.GAPS, 3)
        self.is_not_shown(Higher(3, 2), self.GAPS, 3)

    def test_none_where_the_number_is_not_0(self):
        self.is_not_shown(Higher(3, None), self.GAPS, 0)
        self.is_not_shown(Higher(3, None), self.GAPS, 3)
        self.is_not_shown(Higher(1, None), self.GAPS, 5)
        self.is_not_shown(Higher(-1, None), self.GAPS, 5)

    def test_a_number_below_0(self):
        tall = [(0, 9), (1, 9), (2, 9)]
        for number in (-1, -2, -9, -HUGE):
            for stone in (None, 0, 1, 2):
                for pushed in range(3):
                    self.is_not_shown(Higher(number, stone), tall, pushed)

    def test_counts_that_are_no_stones(self):
        for told in (-1, -2, -5, -6, -7, 6, 7, HUGE, -HUGE):
            self.is_not_shown(Higher(3, told), self.GAPS, 0)
            self.is_not_shown(Higher(3, told), self.GAPS, 3)
            self.is_not_shown(Higher(0, told), self.GAPS, 4)

    def test_numbers_of_any_size(self):
        row = [(-HUGE, 1), (HUGE, HUGE)]
        self.assertIs(Higher(2 * HUGE - 1, 1).shows(row, 0), True)
        self.is_not_shown(Higher(2 * HUGE - 2, 1), row, 0)
        self.is_not_shown(Higher(2 * HUGE, 1), row, 0)
        self.is_not_shown(Higher(HUGE, 1), self.GAPS, 0)

    def test_all_near_numbers_by_the_words_of_the_document(self):
        for row in few_rows():
            for stone in range(len(row)):
                for number in range(-2, 6):
                    for told in [None] + list(range(-2, len(row) + 2)):
                        shown = Higher(number, told).shows(row, stone)
                        self.assertIs(shown, is_higher(row, stone, number, told), (row, stone, number, told))


if __name__ == "__main__":
    unittest.main()
