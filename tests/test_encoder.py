import copy
import itertools
import unittest

from framejoins.encoder import encode, even_plan, smallest
from framejoins.errors import InvalidJoint, InvalidNumber, InvalidPlan, InvalidSound
from framejoins.streams import Stream
from helpers import LARGE, NO_INTEGERS, Case, integers, sequence
from plain import HARD, START, any_layouts, plainly_encoded

NO_SAMPLES = NO_INTEGERS + (Stream([]),)
NO_LISTS = (None, True, False, 0, 1, "", "12", b"", b"12", {}, {0: 1}, set(), {1, 2}, range(3), object(), Stream([]))
NO_LAYOUTS = NO_INTEGERS + (
    0, 2, (2,), (2, HARD), (2, HARD, 0), (2, HARD, 0, 1, 0), [2, HARD, 0, 1], (0, HARD, 0, 1), (-1, HARD, 0, 1),
    (65, HARD, 0, 1), (True, HARD, 0, 1), (None, HARD, 0, 1), ("2", HARD, 0, 1), (2, (0, 1), 0, 1), (2, (9, 0), 0, 1),
    (2, (-1, 0), 0, 1), (2, [0, 0], 0, 1), (2, (False, 0), 0, 1), (2, 0, 0, 1), (2, None, 0, 1), (2, HARD, -1, 1),
    (2, HARD, 6, 1), (2, HARD, False, 1), (2, HARD, None, 1), (2, HARD, 0, 0), (2, HARD, 0, 65), (2, HARD, 0, True),
    (2, HARD, 0, None), (2, HARD, 0, "1"), ((2, HARD, 0, 1),), ("frame", 2, HARD, 0, 1), (HARD, 2, 0, 1),
    (2, (1, 4), 0, 1), (LARGE, HARD, 0, 1), (2, HARD, LARGE, 1), (2, HARD, 0, LARGE), (2, HARD, 0, -1))


def any_plan(seed, limit=64):
    return any_layouts(sequence(seed), 12, limit)


def length_of(plan):
    return sum(layout[0] for layout in plan)


class EncodeTest(Case):

    def check(self, sound, plan, states=0):
        stream = encode(sound, plan, states=states)
        self.assertIs(type(stream), Stream)
        self.assertEqual(stream.records, plainly_encoded(sound, plan, states))
        again = encode(stream.sound(), plan, states=states)
        self.assertEqual(again, stream)
        self.assertEqual(again.sound(), stream.sound())
        return stream

    def test_examples(self):
        s = encode([4, 6], [(2, (0, 0), 1, 1)])
        self.assertEqual(s.records, [('frame', 2, (0, 0), 1, 1, 1274, '1111100101')])
        s = encode([1, 2, 3, 4], [(2, (1, 0), 0, 1), (2, (0, 0), 0, 1)], states=1)
        self.assertEqual([record[0] for record in s.records], ["frame", "state", "frame"])
        self.assertEqual(s.records[1], ("state", s.tables_after(0)))
        self.assertEqual(s.sound(), [1, 2, 3, 4])

    def test_by_hand(self):
        # Folded at the joint (1, 2), the samples 10, 20, 30, 40 are 10, 32, 16, 40.
        stream = encode([10, 20, 30, 40], [(2, (1, 2), 0, 1), (2, HARD, 1, 3)])
        self.assertEqual([stream.numbers(0), stream.numbers(1)], [[10, 32], [9, -8]])
        self.assertEqual([stream.contents(0), stream.contents(1)], [[10, 32], [15, 39]])

    def test_records_and_decoded_sounds(self):
        for seed in range(80):
            plan = any_plan(seed)
            for size in (3, 200, LARGE):
                sound = integers(seed, length_of(plan), size)
                self.check(sound, plan, states=seed % 5)

    def test_the_step_1_keeps_the_sound(self):
        for seed in range(50):
            plan = [layout[:3] + (1,) for layout in any_plan(seed)]
            for size in (0, 1, 2, 9, 10 ** 9, 10 ** 30, LARGE):
                sound = integers(seed, length_of(plan), size)
                self.assertEqual(self.check(sound, plan, states=seed % 4).sound(), sound)

    def test_joints_that_fill_their_frames(self):
        plan = [(8, (8, 1), 5, 1), (16, (8, 3), 4, 1), (9, (1, 0), 0, 1), (1, HARD, 3, 1), (64, HARD, 5, 1)]
        for size in (1, 1000, LARGE):
            sound = integers(size % 89, 98, size)
            self.assertEqual(self.check(sound, plan).sound(), sound)

    def test_all_steps_and_levels(self):
        sound = integers(4, 21, 300)
        for step in range(1, 65):
            for levels in range(6):
                self.check(sound, [(9, (3, 1), levels, step), (12, HARD, levels, 65 - step)])

    def test_samples_at_their_limits(self):
        sound = [LARGE, -LARGE] * 20 + [0, LARGE, LARGE, -LARGE, -LARGE]
        for shape in range(4):
            plan = [(20, (8, shape), 5, 1), (25, HARD, 5, 1)]
            self.assertEqual(self.check(sound, plan).sound(), sound)

    def test_states(self):
        for states in (0, 1, 2, 3, 4, 7, 8, 9, 1000):
            plan = [(2, (1, 1), 0, 1)] * 7 + [(2, HARD, 0, 1)]
            stream = self.check(integers(states, 16, 50), plan, states)
            frames = [stream.block(frame)[0] for frame in range(8)]
            for frame in range(8):
                before = stream.records[frames[frame] - 1] if frames[frame] else None
                if states and frame in range(states, 8, states):
                    self.assertEqual(before, ("state", stream.tables_after(frame - 1)))
                else:
                    self.assertTrue(before is None or before[0] == "frame")
            self.assertEqual(len(stream), 8 + (7 // states if states else 0))

    def test_states_are_left_out_by_default(self):
        plan = [(1, HARD, 0, 1)] * 5
        self.assertEqual(encode([1, 2, 3, 4, 5], plan), encode([1, 2, 3, 4, 5], plan, states=0))
        self.assertEqual(len(encode([1, 2, 3, 4, 5], plan)), 5)

    def test_without_samples(self):
        for sound, plan, states in itertools.product(([], ()), ([], ()), (0, 1, 1000)):
            self.assertEqual(encode(sound, plan, states=states), Stream([]))

    def test_lists_and_tuples(self):
        sound, plan = [5, -6, 7], [(1, (1, 1), 0, 1), (2, HARD, 1, 1)]
        for other in itertools.product((sound, tuple(sound)), (plan, tuple(plan))):
            self.assertEqual(encode(*other), encode(sound, plan))

    def test_names_of_arguments(self):
        sound, plan = [5, -6, 7], [(1, HARD, 0, 1), (2, HARD, 1, 1)]
        self.assertEqual(encode(states=1, plan=plan, sound=sound), encode(sound, plan, states=1))
        with self.assertRaises(TypeError):
            encode(sound, plan, 1)

    def test_arguments_are_not_changed(self):
        sound, plan = integers(1, 30, 99), [(13, (4, 2), 2, 5), (17, HARD, 3, 1)]
        before = copy.deepcopy((sound, plan))
        stream = encode(sound, plan, states=1)
        records = stream.records
        self.assertEqual((sound, plan), before)
        sound.clear()
        plan.clear()
        self.assertEqual(stream.records, records)


class WrongEncodeTest(Case):

    def wrong_plan(self, index, sound, plan):
        for kind in (list, tuple):
            self.fails(InvalidPlan, "index", index, encode, sound, kind(plan))

    def test_sounds(self):
        for sound in NO_LISTS:
            self.fails(InvalidSound, "index", None, encode, sound, [])
        for at in range(4):
            for sample in NO_SAMPLES:
                sound = [1, 2, 3]
                sound.insert(at, sample)
                self.fails(InvalidSound, "index", at, encode, sound, [(4, HARD, 0, 1)])
                self.fails(InvalidSound, "index", at, encode, tuple(sound + [None]), [(5, HARD, 0, 1)])

    def test_plans_that_are_no_lists(self):
        for plan in NO_LISTS:
            self.fails(InvalidPlan, "index", None, encode, [1, 2], plan)
            self.fails(InvalidPlan, "index", None, encode, [], plan)

    def test_items_of_plans(self):
        for item in NO_LAYOUTS:
            self.wrong_plan(0, [1, 2], [item])
            self.wrong_plan(0, [1, 2, 3, 4], [item, (2, HARD, 0, 1)])
            self.wrong_plan(2, [1, 2, 3, 4], [(1, HARD, 0, 1), (1, HARD, 0, 1), item, None])

    def test_joints_that_are_too_wide(self):
        for length, left, right in ((1, 1, 1), (3, 2, 2), (3, 4, 0), (8, 8, 1), (8, 1, 8), (15, 8, 8), (1, 8, 8)):
            plan = [(8, (left, 0), 0, 1), (length, (right, 0) if right else HARD, 0, 1), (8, HARD, 0, 1)]
            self.wrong_plan(1, [1] * (16 + length), plan)
        self.wrong_plan(0, [1] * 4, [(1, (2, 0), 0, 1), (3, HARD, 0, 1)])
        self.wrong_plan(1, [1] * 4, [(3, (2, 0), 0, 1), (1, HARD, 0, 1)])

    def test_joints_that_fit_exactly(self):
        for length, left, right in ((1, 1, 0), (1, 0, 1), (4, 2, 2), (9, 8, 1), (9, 1, 8), (16, 8, 8)):
            plan = [(8, (left, 0) if left else HARD, 0, 1), (length, (right, 0) if right else HARD, 0, 1),
                    (8, HARD, 0, 1)]
            sound = integers(length, 16 + length, 50)
            self.assertEqual(encode(sound, plan).sound(), sound)

    def test_last_joint(self):
        for width in range(1, 9):
            for shape in range(4):
                self.wrong_plan(0, [1] * 8, [(8, (width, shape), 0, 1)])
                self.wrong_plan(1, [1] * 16, [(8, HARD, 0, 1), (8, (width, shape), 0, 1)])

    def test_lengths(self):
        for many in range(7):
            for plan in ([], [(1, HARD, 0, 1)], [(2, HARD, 0, 1)], [(1, HARD, 0, 1), (3, HARD, 0, 1)]):
                if length_of(plan) != many:
                    self.wrong_plan(None, [7] * many, plan)

    def test_the_first_wrong_item_comes_before_the_lengths(self):
        self.wrong_plan(1, [1] * 9, [(2, HARD, 0, 1), (2, (1, 0), 0, 1)])
        self.wrong_plan(1, [], [(2, HARD, 0, 1), None])
        self.wrong_plan(0, [], [(2, (3, 0), 0, 1), None])
        self.wrong_plan(1, [], [(2, (2, 0), 0, 1), (2, (1, 0), 0, 1), (1, HARD, 0, 1), None])
        self.wrong_plan(2, [1] * 5, [(2, (2, 0), 0, 1), (2, HARD, 0, 1), (1, (1, 0), 0, 1)])
        self.wrong_plan(1, [1] * 5, [(2, (2, 0), 0, 1), (2, (1, 0), 0, 1), (1, (1, 0), 0, 1)])

    def test_states(self):
        for states in NO_INTEGERS + (-1, 1001, LARGE, -LARGE):
            self.fails(InvalidNumber, "value", states, encode, [1], [(1, HARD, 0, 1)], states=states)
            self.fails(InvalidNumber, "value", states, encode, [], [], states=states)

    def test_order_of_errors(self):
        self.fails(InvalidSound, "index", None, encode, None, None, states=None)
        self.fails(InvalidSound, "index", 1, encode, [1, None], [None], states=-1)
        self.fails(InvalidSound, "index", 1, encode, [1, True], [], states=1)
        self.fails(InvalidPlan, "index", None, encode, [1], None, states=-1)
        self.fails(InvalidPlan, "index", 0, encode, [1], [None], states=-1)
        self.fails(InvalidPlan, "index", None, encode, [1], [], states=-1)
        self.fails(InvalidNumber, "value", -1, encode, [1], [(1, HARD, 0, 1)], states=-1)

    def test_nothing_is_changed(self):
        sound, plan = [1, 2], [(1, HARD, 0, 1), (1, (1, 0), 0, 1)]
        before = copy.deepcopy((sound, plan))
        self.fails(InvalidPlan, "index", 1, encode, sound, plan)
        self.assertEqual((sound, plan), before)


def plain_even_plan(length, block, joint, levels, step):
    lengths = [block] * (length // block) + [length % block] * (length % block > 0)
    plan, before = [], 0
    for frame, here in enumerate(lengths):
        fits = frame + 1 < len(lengths) and joint[0] <= lengths[frame + 1] and before + joint[0] <= here
        plan.append((here, joint if fits else HARD, levels, step))
        before = plan[-1][1][0]
    return plan


class EvenPlanTest(Case):

    def test_by_hand(self):
        self.assertEqual(even_plan(0, 1, HARD, 0, 1), [])
        self.assertEqual(even_plan(5, 2, HARD, 1, 3), [(2, HARD, 1, 3), (2, HARD, 1, 3), (1, HARD, 1, 3)])
        self.assertEqual(even_plan(5, 2, (1, 3), 5, 64), [(2, (1, 3), 5, 64), (2, (1, 3), 5, 64), (1, HARD, 5, 64)])
        self.assertEqual(even_plan(6, 2, (2, 1), 0, 1), [(2, (2, 1), 0, 1), (2, HARD, 0, 1), (2, HARD, 0, 1)])
        self.assertEqual(even_plan(8, 2, (2, 1), 0, 1), [(2, (2, 1), 0, 1), (2, HARD, 0, 1), (2, (2, 1), 0, 1),
                                                         (2, HARD, 0, 1)])
        self.assertEqual(even_plan(5, 4, (2, 1), 0, 1), [(4, HARD, 0, 1), (1, HARD, 0, 1)])
        self.assertEqual(even_plan(3, 64, (2, 1), 0, 1), [(3, HARD, 0, 1)])

    def test_all_small_lengths_and_blocks(self):
        for width in range(9):
            joint = (width, 2 if width else 0)
            for length in range(40):
                for block in list(range(1, 20)) + [63, 64]:
                    plan = even_plan(length, block, joint, 2, 1)
                    self.assertIs(type(plan), list)
                    self.assertEqual(plan, plain_even_plan(length, block, joint, 2, 1), (length, block, joint))
                    sound = integers(length, length, 9)
                    if block in (1, 7, 16, 64):
                        self.assertEqual(encode(sound, plan).sound(), sound)

    def test_limits(self):
        for length in (19999, 20000):
            for block in (1, 2, 63, 64):
                for joint in (HARD, (1, 3), (8, 1)):
                    self.assertEqual(even_plan(length, block, joint, 5, 64),
                                     plain_even_plan(length, block, joint, 5, 64))

    def test_results_are_new(self):
        even_plan(9, 3, HARD, 0, 1).clear()
        self.assertEqual(len(even_plan(9, 3, HARD, 0, 1)), 3)

    def test_names_of_arguments(self):
        self.assertEqual(even_plan(step=7, levels=3, joint=(1, 2), block=4, length=9), even_plan(9, 4, (1, 2), 3, 7))

    def test_wrong_arguments(self):
        good = (9, 4, (1, 2), 3, 7)
        for at, low, high in ((0, 0, 20000), (1, 1, 64), (3, 0, 5), (4, 1, 64)):
            for value in NO_INTEGERS + (low - 1, high + 1, LARGE, -LARGE):
                self.fails(InvalidNumber, "value", value, even_plan, *good[:at], value, *good[at + 1:])
            for value in (low, high):
                even_plan(*good[:at], value, *good[at + 1:])
        for joint in NO_INTEGERS + ((0, 1), (9, 0), (-1, 0), (1, 4), (1, -1), [1, 2], (True, 0), (1, 2, 3), 0, 3):
            self.fails(InvalidJoint, "value", joint, even_plan, 9, 4, joint, 3, 7)
            self.fails(InvalidJoint, "value", joint, even_plan, 0, 4, joint, 3, 7)

    def test_order_of_errors(self):
        wrong = [("length", -1), ("block", 0), ("joint", (0, 1)), ("levels", 6), ("step", 65)]
        good = {"length": 9, "block": 4, "joint": (1, 2), "levels": 3, "step": 7}
        for first, second in itertools.combinations(range(5), 2):
            arguments = dict(good)
            arguments.update([wrong[first], wrong[second]])
            kind = InvalidJoint if wrong[first][0] == "joint" else InvalidNumber
            self.fails(kind, "value", wrong[first][1], even_plan, **arguments)


class SmallestTest(Case):

    def check(self, sound, plans):
        streams = [encode(sound, plan) for plan in plans]
        sizes = [stream.size() for stream in streams]
        index = sizes.index(min(sizes))
        for kind in (list, tuple):
            result = smallest(sound, kind(plans))
            self.assertEqual((type(result), type(result[0]), type(result[1])), (tuple, int, Stream))
            self.assertEqual(result, (index, streams[index]))
        return index

    def test_each_plan_can_be_the_smallest(self):
        sound = [100, 101, 103, 102, 99, 98, 97, 100]
        plans = [[(8, HARD, 3, 1)], [(4, HARD, 0, 1), (4, HARD, 0, 1)], [(1, HARD, 0, 1)] * 8, [(8, HARD, 3, 64)]]
        sizes = [encode(sound, plan).size() for plan in plans]
        self.assertEqual(len(set(sizes)), 4)
        found = [self.check(sound, list(order)) for order in itertools.permutations(plans)]
        self.assertEqual(sorted(set(found)), [0, 1, 2, 3])

    def test_many_plans(self):
        for seed in range(20):
            sound = integers(seed, 40, 3 + seed * seed)
            self.check(sound, [even_plan(40, block, joint, levels, 1) for block in (40, 16, 7)
                               for joint in (HARD, (2, 1), (5, 3)) for levels in (0, 2)])

    def test_the_first_one_of_the_same_size(self):
        plan = [(2, HARD, 0, 1), (2, HARD, 0, 1)]
        other = [(2, HARD, 0, 2), (2, HARD, 0, 2)]
        large = [(1, HARD, 0, 1)] * 4
        sound = [0, 0, 0, 0]
        self.assertEqual(encode(sound, plan).size(), encode(sound, other).size())
        self.assertEqual(smallest(sound, [large, plan, other]), (1, encode(sound, plan)))
        self.assertEqual(smallest(sound, [other, plan, large]), (0, encode(sound, other)))
        self.assertEqual(smallest(sound, [large, large, other, large, plan]), (2, encode(sound, other)))

    def test_without_samples(self):
        self.assertEqual(smallest((), ([],)), (0, Stream([])))
        self.assertEqual(smallest([], [(), []]), (0, Stream([])))

    def test_names_of_arguments(self):
        self.assertEqual(smallest(plans=[[(1, HARD, 0, 1)]], sound=[5]), (0, encode([5], [(1, HARD, 0, 1)])))

    def test_wrong_sounds(self):
        plans = [[(2, HARD, 0, 1)]]
        for sound in NO_LISTS:
            self.fails(InvalidSound, "index", None, smallest, sound, plans)
        for sample in NO_SAMPLES:
            self.fails(InvalidSound, "index", 1, smallest, [1, sample], plans)
        self.fails(InvalidSound, "index", None, smallest, None, None)
        self.fails(InvalidSound, "index", 0, smallest, [None, None], [None])

    def test_wrong_plans(self):
        for plans in NO_LISTS + ([], ()):
            self.fails(InvalidPlan, "index", None, smallest, [1, 2], plans)
        good = [(2, HARD, 0, 1)]
        wrong = [[item] for item in NO_LAYOUTS] + list(NO_LISTS)
        wrong += [[], (), [(1, HARD, 0, 1)], [(3, HARD, 0, 1)], [(2, (1, 0), 0, 1)]]
        wrong += [[(1, (2, 0), 0, 1), (1, HARD, 0, 1)], ((1, (1, 0), 0, 1), (1, (1, 0), 0, 1))]
        for plan in wrong:
            for at in range(3):
                plans = [good, good, good]
                plans[at] = plan
                self.fails(InvalidPlan, "index", at, smallest, [1, 2], plans)
                self.fails(InvalidPlan, "index", at, smallest, (1, 2), tuple(plans[:at + 1]) + (None,))

    def test_arguments_are_not_changed(self):
        arguments = ([1, 2, 3], [[(3, HARD, 1, 1)], [(1, (1, 0), 0, 1), (2, HARD, 0, 1)]])
        before = copy.deepcopy(arguments)
        smallest(*arguments)
        self.assertEqual(arguments, before)


if __name__ == "__main__":
    unittest.main()
