import copy
import unittest

from framejoins.errors import InvalidNumber, InvalidPlan, InvalidSound
from framejoins.folds import fold_pair, folded, is_joint, unfold_pair, unfolded
from helpers import LARGE, NO_INTEGERS, Case, integers
from plain import plainly_folded, three_steps

SMALL = list(range(-13, 14))
WIDE = [LARGE, -LARGE, LARGE // 3, -(10 ** 59), 10 ** 30 + 1, -(10 ** 30) - 2, 0, 1, -1]

# Joints as near to each other and to the ends as they may be, for a list of 40 items:
# the width of the first from the beginning, the widths of both between two, the width of the last to the end.
NEAREST = (
    (8, (8, 3)), (19, (3, 1)), (22, (0, 0)), (23, (0, 0)), (24, (1, 0)), (26, (1, 2)), (32, (5, 3)), (38, (1, 1)),
    (39, (0, 0)),
)


class JointsTest(unittest.TestCase):

    def test_joints(self):
        self.assertIs(is_joint((0, 0)), True)
        for width in range(1, 9):
            for shape in range(4):
                self.assertIs(is_joint((width, shape)), True, (width, shape))

    def test_width_0_has_shape_0(self):
        for shape in (1, 2, 3):
            self.assertIs(is_joint((0, shape)), False, shape)

    def test_beyond_the_limits(self):
        for value in ((9, 0), (9, 3), (-1, 0), (-1, 1), (1, 4), (8, 4), (1, -1), (8, -1), (0, 4), (0, -1),
                      (LARGE, 0), (1, LARGE), (-LARGE, 0), (1, -LARGE)):
            self.assertIs(is_joint(value), False, value)

    def test_items_that_are_no_integers(self):
        for item in NO_INTEGERS:
            self.assertIs(is_joint((item, 0)), False, item)
            self.assertIs(is_joint((item, 1)), False, item)
            self.assertIs(is_joint((1, item)), False, item)
            self.assertIs(is_joint((0, item)), False, item)
            self.assertIs(is_joint((item, item)), False, item)

    def test_other_kinds(self):
        for value in NO_INTEGERS + (0, 1, -1, "10", "ab", b"\x01\x00", [1, 0], [0, 0], {1: 0, 2: 0}, {1, 0},
                                    frozenset((1, 0)), range(2), is_joint, object(), int):
            self.assertIs(is_joint(value), False, value)

    def test_other_numbers_of_items(self):
        for value in ((), (1,), (0,), (1, 0, 0), (0, 0, 0), (1, 0, None), ((1, 0),), ((1, 0), (1, 0))):
            self.assertIs(is_joint(value), False, value)

    def test_by_name(self):
        self.assertIs(is_joint(value=(1, 3)), True)


class PairsTest(Case):

    def test_example(self):
        self.assertEqual([fold_pair(0, 10, 4), unfold_pair(0, 7, 9), folded([10, 20, 30, 40], [(2, (1, 2))])],
                         [(7, 9), (10, 4), [10, 32, 16, 40]])

    def test_each_shape_by_hand(self):
        for shape, pair in ((0, (7, 9)), (1, (3, 10)), (2, (11, -1)), (3, (10, -5))):
            self.assertEqual(fold_pair(shape, 10, 4), pair)
            self.assertEqual(unfold_pair(shape, *pair), (10, 4))

    def test_small_integers(self):
        for shape in range(4):
            for a in SMALL:
                for b in SMALL:
                    pair = fold_pair(shape, a, b)
                    self.assertIs(type(pair), tuple)
                    self.assertEqual(pair, three_steps(shape, a, b))
                    self.assertEqual(unfold_pair(shape, *pair), (a, b))
                    self.assertEqual(fold_pair(shape, *unfold_pair(shape, a, b)), (a, b))

    def test_integers_of_many_digits(self):
        values = WIDE + integers(3, 12, LARGE) + integers(4, 6, 10 ** 20)
        for shape in range(4):
            for a in values:
                for b in values:
                    pair = fold_pair(shape, a, b)
                    self.assertEqual(pair, three_steps(shape, a, b))
                    self.assertEqual(unfold_pair(shape, *pair), (a, b))
                    self.assertEqual(fold_pair(shape, *unfold_pair(shape, a, b)), (a, b))

    def test_unfolded_pair_is_a_tuple(self):
        self.assertIs(type(unfold_pair(3, 0, 0)), tuple)

    def test_by_name(self):
        self.assertEqual(fold_pair(b=4, a=10, shape=1), (3, 10))
        self.assertEqual(unfold_pair(b=10, a=3, shape=1), (10, 4))

    def test_wrong_shape(self):
        for call in (fold_pair, unfold_pair):
            for shape in NO_INTEGERS + (-1, 4, LARGE, -LARGE):
                self.fails(InvalidNumber, "value", shape, call, shape, 1, 2)

    def test_wrong_values(self):
        for call in (fold_pair, unfold_pair):
            for value in NO_INTEGERS:
                self.fails(InvalidNumber, "value", value, call, 0, value, 2)
                self.fails(InvalidNumber, "value", value, call, 3, 1, value)

    def test_order_of_errors(self):
        for call in (fold_pair, unfold_pair):
            self.fails(InvalidNumber, "value", 4, call, 4, None, "b")
            self.fails(InvalidNumber, "value", None, call, 0, None, "b")
            self.fails(InvalidNumber, "value", "b", call, 0, 1, "b")
            self.fails(InvalidNumber, "value", None, call, b="b", a=None, shape=0)


class ListsTest(Case):

    def check(self, values, joints):
        values_before, joints_before = copy.deepcopy(values), copy.deepcopy(joints)
        there = folded(values, joints)
        self.assertIs(type(there), list)
        self.assertEqual(there, plainly_folded(values, joints))
        back = unfolded(there, joints)
        self.assertIs(type(back), list)
        self.assertEqual(back, list(values))
        self.assertEqual(folded(unfolded(values, joints), joints), list(values))
        self.assertEqual((values, joints), (values_before, joints_before))
        self.assertEqual((type(values), type(joints)), (type(values_before), type(joints_before)))

    def test_nearest_joints(self):
        for seed, size in ((1, 5), (2, 1000), (3, LARGE)):
            values = integers(seed, 40, size)
            for some in (values, tuple(values)):
                for joints in (NEAREST, list(NEAREST)):
                    self.check(some, joints)

    def test_each_width_fills_the_list(self):
        for width in range(1, 9):
            for shape in range(4):
                self.check(integers(width, 2 * width, 99), [(width, (width, shape))])
                self.check(integers(shape, 4 * width, 99), [(width, (width, shape)), (3 * width, (width, shape))])

    def test_pairs_by_hand(self):
        self.assertEqual(folded([5, 10, 4, 7], [(2, (1, 1))]), [5, 3, 10, 7])
        self.assertEqual(folded((4, 10, 4, 10), ((2, (2, 3)),)),
                         [three_steps(3, 4, 10)[0], 10, -5, three_steps(3, 4, 10)[1]])
        self.assertEqual(unfolded((5, 3, 10, 7), ((2, (1, 1)),)), [5, 10, 4, 7])

    def test_hard_joints_change_nothing(self):
        self.check([1, 2, 3], [(1, (0, 0)), (2, (0, 0))])
        self.assertEqual(folded([1, 2, 3], [(1, (0, 0)), (2, (0, 0))]), [1, 2, 3])

    def test_without_values_or_joints(self):
        for call in (folded, unfolded):
            for values in ([], ()):
                for joints in ([], ()):
                    self.assertEqual(call(values, joints), [])
                    self.assertIs(type(call(values, joints)), list)
            self.assertEqual(call((4, 5), ()), [4, 5])
            self.assertEqual(call([7], []), [7])

    def test_results_are_new(self):
        values = [1, 2, 3]
        for call in (folded, unfolded):
            for joints in ([], [(1, (0, 0))]):
                self.assertIsNot(call(values, joints), values)
                self.assertIsNot(call(values, joints), call(values, joints))

    def test_long_list(self):
        values = integers(9, 2000, 10 ** 6)
        self.check(values, [(place, (4, place // 8 % 4)) for place in range(8, 1993, 8)])

    def test_by_name(self):
        self.assertEqual(folded(joints=[(1, (1, 0))], values=[10, 4]), [7, 9])
        self.assertEqual(unfolded(joints=[(1, (1, 0))], values=[7, 9]), [10, 4])


class WrongListsTest(Case):

    def wrong_plan(self, index, values, joints):
        for call in (folded, unfolded):
            self.fails(InvalidPlan, "index", index, call, values, joints)
            self.fails(InvalidPlan, "index", index, call, tuple(values), tuple(joints))

    def test_values_that_are_no_sound(self):
        for call in (folded, unfolded):
            for values in (None, True, 5, "12", b"12", {1: 2}, {1, 2}, range(3)):
                self.fails(InvalidSound, "index", None, call, values, [])

    def test_items_that_are_no_integers(self):
        for call in (folded, unfolded):
            for item in NO_INTEGERS:
                self.fails(InvalidSound, "index", 0, call, [item, 1, item], [])
                self.fails(InvalidSound, "index", 2, call, (0, 1, item), ())
            self.fails(InvalidSound, "index", 700, call, [0] * 700 + [None, None], [])

    def test_joints_that_are_no_list(self):
        for call in (folded, unfolded):
            for joints in (None, False, 5, "", "12", b"", {}, {1: (1, 0)}, set(), range(0)):
                self.fails(InvalidPlan, "index", None, call, [1, 2], joints)

    def test_items_that_are_no_placed_joints(self):
        good = (1, (1, 0))
        for item in NO_INTEGERS + (1, [2, (0, 0)], (2,), (2, (0, 0), 0), (2, 0, 0), (2, [0, 0]), (2, None),
                                   (2, (0, 1)), (2, (9, 0)), (2, (True, 0)), (2, (1, 4)), ((0, 0), 2)):
            self.wrong_plan(0, [1, 2, 3, 4], [item])
            self.wrong_plan(1, [1, 2, 3, 4], [good, item])
            self.wrong_plan(1, [1, 2, 3, 4], [good, item, item])

    def test_places_that_are_no_integers(self):
        for place in NO_INTEGERS:
            self.wrong_plan(0, [1, 2, 3, 4], [(place, (0, 0))])
            self.wrong_plan(0, [1, 2, 3, 4], [(place, (1, 0))])

    def test_places_at_and_beyond_the_ends(self):
        for place in (0, -1, -2, -LARGE, 4, 5, LARGE):
            self.wrong_plan(0, [1, 2, 3, 4], [(place, (0, 0))])
        self.wrong_plan(1, [1, 2, 3, 4], [(3, (0, 0)), (4, (0, 0))])
        for joints in ([(0, (0, 0))], [(1, (0, 0))], [(1, (1, 0))]):
            self.wrong_plan(0, [], joints)
            self.wrong_plan(0, [7], joints)

    def test_places_that_do_not_ascend(self):
        self.wrong_plan(1, [1, 2, 3, 4], [(2, (0, 0)), (2, (0, 0))])
        self.wrong_plan(1, [1, 2, 3, 4], [(2, (0, 0)), (1, (0, 0))])
        self.wrong_plan(2, [1, 2, 3, 4], [(1, (0, 0)), (3, (0, 0)), (2, (0, 0)), (1, (0, 0))])

    def test_joints_too_near_to_the_ends(self):
        for width in range(1, 9):
            values = [0] * 40
            self.wrong_plan(0, values, [(width - 1, (width, 0))])
            self.wrong_plan(0, values, [(40 - width + 1, (width, 0))])
            self.wrong_plan(1, values, [(20, (0, 0)), (40 - width + 1, (width, 0))])
            self.wrong_plan(0, [0] * (2 * width - 1), [(width, (width, 0))])

    def test_joints_too_near_to_each_other(self):
        values = [0] * 60
        for first in range(9):
            for second in range(9):
                near = first + second
                joints = [(20, (first, 0)), (20 + max(near, 1), (second, 0))]
                self.assertEqual(folded(values, joints), plainly_folded(values, joints))
                self.wrong_plan(1, values, [(20, (first, 0)), (20 + near - 1, (second, 0))])

    def test_nearest_joints_one_step_nearer(self):
        for index, (place, joint) in enumerate(NEAREST):
            joints = list(NEAREST)
            joints[index] = (place - 1, joint)
            self.wrong_plan(index, [0] * 40, joints)
        self.wrong_plan(7, [0] * 38, NEAREST)
        self.wrong_plan(8, [0] * 39, NEAREST)

    def test_order_of_errors(self):
        for call in (folded, unfolded):
            self.fails(InvalidSound, "index", None, call, None, None)
            self.fails(InvalidSound, "index", 1, call, [1, True], None)
            self.fails(InvalidSound, "index", 1, call, [1, True], [None])
            self.fails(InvalidSound, "index", 1, call, joints=None, values=[1, True])
            self.fails(InvalidPlan, "index", 0, call, [1, 2], [(2, (0, 0)), None])
            self.fails(InvalidPlan, "index", 1, call, [1, 2], [(1, (0, 0)), None, (0, (0, 0))])

    def test_arguments_stay_after_an_error(self):
        values, joints = [1, 2, 3, 4], [(1, (1, 0)), (2, (1, 0))]
        for call in (folded, unfolded):
            self.fails(InvalidPlan, "index", 1, call, values, joints)
        self.assertEqual((values, joints), ([1, 2, 3, 4], [(1, (1, 0)), (2, (1, 0))]))


if __name__ == "__main__":
    unittest.main()
