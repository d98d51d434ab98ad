import unittest

from framejoins.errors import InvalidNumber, InvalidSound
from framejoins.levels import coarse_count, join_levels, quantized, split_levels
from helpers import LARGE, NO_INTEGERS, Case, integers
from plain import plainly_split

NO_LEVELS = NO_INTEGERS + (-1, 6, LARGE, -LARGE)
NO_BLOCKS = (None, True, 0, 5, "12", b"12", (1, 2), (1,), (), {}, {1: 2}, {1, 2}, range(3), [], [0] * 65)


class LevelsTest(Case):

    def test_example(self):
        self.assertEqual(
            [split_levels([9, 4, 7, 8, 1], 1), split_levels([9, 4, 7, 8, 1], 2), coarse_count(5, 2),
             quantized(-7, 4), join_levels([6, 1, -1, 5, -1], 2)],
            [[6, 7, 1, 5, -1], [6, 1, -1, 5, -1], 2, -2, [9, 4, 7, 8, 1]])

    def test_by_hand(self):
        self.assertEqual(split_levels([1, 2], 1), [1, -1])
        self.assertEqual(split_levels([-1, -2], 1), [-2, 1])
        self.assertEqual(split_levels([3, -4, 0], 1), [-1, 0, 7])
        self.assertEqual(split_levels([3, -4, 0], 2), [-1, -1, 7])
        self.assertEqual(split_levels([3, -4, 0], 5), [-1, -1, 7])
        self.assertEqual(split_levels([8, 4, 3, 1, 0, 2, 5, 7], 3), [3, 1, 4, -5, 4, 2, -2, -2])
        self.assertEqual(join_levels([3, 1, 4, -5, 4, 2, -2, -2], 3), [8, 4, 3, 1, 0, 2, 5, 7])
        self.assertEqual(join_levels([1, -1], 1), [1, 2])

    def test_all_lengths_and_levels(self):
        for length in range(1, 65):
            for levels in range(6):
                for size in (2, 1000, LARGE):
                    values = integers(length * 10 + levels, length, size)
                    before = list(values)
                    numbers = split_levels(values, levels)
                    self.assertIs(type(numbers), list)
                    self.assertEqual(numbers, plainly_split(values, levels))
                    self.assertEqual(join_levels(numbers, levels), values)
                    joined = join_levels(values, levels)
                    self.assertIs(type(joined), list)
                    self.assertEqual(split_levels(joined, levels), values)
                    self.assertEqual(values, before)

    def test_small_lists_of_all_signs(self):
        for a in range(-4, 5):
            for b in range(-4, 5):
                for c in range(-4, 5):
                    for levels in range(4):
                        numbers = split_levels([a, b, c], levels)
                        self.assertEqual(numbers, plainly_split([a, b, c], levels))
                        self.assertEqual(join_levels(numbers, levels), [a, b, c])
                        self.assertEqual(split_levels(join_levels([a, b, c], levels), levels), [a, b, c])

    def test_one_value(self):
        for levels in range(6):
            for value in (0, -1, 7, LARGE, -LARGE):
                self.assertEqual(split_levels([value], levels), [value])
                self.assertEqual(join_levels([value], levels), [value])

    def test_results_are_new(self):
        for call in (split_levels, join_levels):
            for levels in range(6):
                for values in ([5], [5, 6, 7]):
                    result = call(values, levels)
                    self.assertIsNot(result, values)
                    result.append(0)
                    self.assertIn(values, ([5], [5, 6, 7]))

    def test_by_name(self):
        self.assertEqual(split_levels(levels=1, values=[1, 2]), [1, -1])
        self.assertEqual(join_levels(levels=1, numbers=[1, -1]), [1, 2])
        self.assertEqual(coarse_count(levels=1, length=5), 3)
        self.assertEqual(quantized(step=4, value=-7), -2)

    def test_wrong_lists(self):
        for call in (split_levels, join_levels):
            for values in NO_BLOCKS:
                self.fails(InvalidSound, "index", None, call, values, 1)
            for item in NO_INTEGERS:
                self.fails(InvalidSound, "index", 0, call, [item], 0)
                self.fails(InvalidSound, "index", 1, call, [1, item, item], 1)
                self.fails(InvalidSound, "index", 63, call, [0] * 63 + [item], 5)

    def test_wrong_levels(self):
        for levels in NO_LEVELS:
            self.fails(InvalidNumber, "value", levels, split_levels, [1, 2], levels)
            self.fails(InvalidNumber, "value", levels, join_levels, [1, 2], levels)
            self.fails(InvalidNumber, "value", levels, split_levels, [1], levels)
            self.fails(InvalidNumber, "value", levels, join_levels, [1], levels)

    def test_order_of_errors(self):
        for call in (split_levels, join_levels):
            self.fails(InvalidSound, "index", None, call, [], 6)
            self.fails(InvalidSound, "index", None, call, [None] * 65, 6)
            self.fails(InvalidSound, "index", 1, call, [1, None], None)
        self.fails(InvalidSound, "index", 0, split_levels, levels=None, values=[None])
        self.fails(InvalidSound, "index", 0, join_levels, levels=None, numbers=[None])


class CoarseCountTest(Case):

    def test_all_lengths_and_levels(self):
        for length in range(1, 65):
            for levels in range(6):
                self.assertEqual(coarse_count(length, levels), -(-length // 2 ** levels), (length, levels))

    def test_coarse_numbers_are_the_sums_of_the_last_level(self):
        for length in range(1, 65):
            for levels in range(6):
                sums = list(range(1000, 1000 + length))
                for _ in range(levels):
                    sums = [sum(sums[at:at + 2]) // len(sums[at:at + 2]) for at in range(0, len(sums), 2)]
                numbers = split_levels(list(range(1000, 1000 + length)), levels)
                self.assertEqual(numbers[:coarse_count(length, levels)], sums)

    def test_wrong_arguments(self):
        for length in NO_INTEGERS + (0, -1, 65, LARGE, -LARGE):
            self.fails(InvalidNumber, "value", length, coarse_count, length, 1)
        for levels in NO_LEVELS:
            self.fails(InvalidNumber, "value", levels, coarse_count, 5, levels)
            self.fails(InvalidNumber, "value", levels, coarse_count, 1, levels)

    def test_order_of_errors(self):
        self.fails(InvalidNumber, "value", 65, coarse_count, 65, 6)
        self.fails(InvalidNumber, "value", None, coarse_count, levels="x", length=None)


class QuantizedTest(Case):

    def test_near_the_middle(self):
        cases = ((1, -2, -2), (1, 0, 0), (1, 9, 9), (2, 0, 0), (2, 1, 1), (2, -1, 0), (2, -2, -1), (2, -3, -1),
                 (3, 1, 0), (3, 2, 1), (3, -1, 0), (3, -2, -1), (3, 4, 1), (3, 5, 2), (4, 1, 0), (4, 2, 1),
                 (4, -1, 0), (4, -2, 0), (4, -3, -1), (4, -6, -1), (4, -7, -2), (64, 31, 0), (64, 32, 1),
                 (64, -32, 0), (64, -33, -1), (63, 31, 0), (63, 32, 1), (63, -31, 0), (63, -32, -1))
        for step, value, number in cases:
            self.assertEqual(quantized(value, step), number, (value, step))

    def test_nearest_multiple_and_the_greater_one_in_the_middle(self):
        for step in range(1, 65):
            for value in list(range(-200, 201)) + [LARGE, -LARGE]:
                away = value - quantized(value, step) * step
                self.assertTrue(-step <= 2 * away < step, (value, step))

    def test_wrong_arguments(self):
        for value in NO_INTEGERS:
            self.fails(InvalidNumber, "value", value, quantized, value, 4)
        for step in NO_INTEGERS + (0, -1, 65, LARGE, -LARGE):
            self.fails(InvalidNumber, "value", step, quantized, 4, step)

    def test_order_of_errors(self):
        self.fails(InvalidNumber, "value", None, quantized, None, 0)
        self.fails(InvalidNumber, "value", True, quantized, step="x", value=True)


if __name__ == "__main__":
    unittest.main()
