import copy
import itertools
import time
import unittest

from framejoins.budgets import edit_delay, frame_sizes, least_delay, padding
from framejoins.clips import Clip
from framejoins.edits import Edit
from framejoins.encoder import encode, even_plan
from framejoins.errors import InvalidNumber, InvalidPlan
from framejoins.streams import Stream
from helpers import LARGE, NO_INTEGERS, Case, integers, sequence
from plain import HARD, START, any_built, plain_record
from plain_clips import any_clip
from plain_edits import any_edit, any_streams

MOST = 10 ** 9
GREAT = 10 ** 30
RATES = (0, 1, 2, 5, 13, 40, 200, MOST)


def starts_of(sizes):
    starts = [0]
    for size, length in sizes:
        starts.append(starts[-1] + length)
    return starts


def in_time(sizes, rate, delay):
    """Whether each frame arrives in time with this delay."""
    arrived, starts = 0, starts_of(sizes)
    for at, (size, length) in enumerate(sizes):
        arrived += size
        if arrived > delay + rate * starts[at]:
            return False
    return True


def is_padding(sizes, units, rate, delay, store):
    """Whether each frame arrives in time, and the store is never too full at the beginning of a block."""
    starts = starts_of(sizes)
    padded = [(size + unit, length) for (size, length), unit in zip(sizes, units)]
    if not in_time(padded, rate, delay):
        return False
    taken = 0
    for at, (size, length) in enumerate(padded):
        if at > 0 and delay + rate * starts[at] - taken > store:
            return False
        taken += size
    return True


def any_sizes(source, many, size, length):
    return [(next(source) % (size + 1), 1 + next(source) % length) for frame in range(many)]


class DelayTest(Case):

    def test_example(self):
        self.assertEqual([least_delay([(50, 2), (30, 2)], 10), padding([(5, 1), (5, 1)], 10, 10, 12),
                          padding([(1, 1), (1, 1)], 10, 100, 5)], [60, [3, 0], (0, 0)])

    def test_against_the_definition(self):
        for seed in range(800):
            source = sequence(seed)
            sizes = any_sizes(source, next(source) % 8, 60, 9)
            rate = (0, 1, 3, 10, 30, MOST)[next(source) % 6]
            delay = least_delay(sizes, rate)
            self.assertTrue(in_time(sizes, rate, delay))
            self.assertGreaterEqual(delay, 0)
            self.assertTrue(delay == 0 or not in_time(sizes, rate, delay - 1))
            self.assertEqual(least_delay(tuple(sizes), rate), delay)

    def test_by_hand(self):
        for sizes, rate, delay in (([], 0, 0), ([], 5, 0), ((), MOST, 0), ([(7, 1)], 0, 7), ([(7, 1)], MOST, 7),
                                   ([(0, 1)], 0, 0), ([(0, 5), (0, 5)], 3, 0), ([(0, 5), (15, 1)], 3, 0),
                                   ([(0, 5), (16, 1)], 3, 1), ([(10, 2), (10, 2), (10, 2)], 5, 10),
                                   ([(10, 2), (11, 2), (10, 2)], 5, 11), ([(1, 1), (2, 1), (3, 1)], 0, 6),
                                   ([(MOST, MOST)] * 3, MOST, MOST), ([(MOST, 1)] * 3, 0, 3 * MOST)):
            self.assertEqual(least_delay(sizes, rate), delay)
        self.assertEqual(least_delay(sizes=[(3, 4)], rate=2), 3)

    def test_errors(self):
        for value in NO_INTEGERS + (0, 1, Stream([])):
            if not isinstance(value, (list, tuple)):
                self.fails(InvalidPlan, "index", None, least_delay, value, None)
                self.fails(InvalidPlan, "index", None, padding, value, None, None, None)
        for value in NO_INTEGERS + (0, [5, 5], (5,), (5, 5, 5), (-1, 5), (5, 0), (5, -1), (MOST + 1, 5), (5, MOST + 1),
                                    (True, 5), (5, True), (False, 5), (None, 5), (5, None), ("5", 5), ([5], 5)):
            for sizes, index in (([value], 0), ([(0, 1), (MOST, MOST), value, None], 2), (((0, 1), value), 1)):
                self.fails(InvalidPlan, "index", index, least_delay, sizes, None)
                self.fails(InvalidPlan, "index", index, padding, sizes, None, None, None)
        for value in NO_INTEGERS + (-1, MOST + 1, LARGE):
            self.fails(InvalidNumber, "value", value, least_delay, [(1, 1)], value)
            self.fails(InvalidNumber, "value", value, least_delay, [], value)
            self.fails(InvalidNumber, "value", value, padding, [], value, None, None)
            self.fails(InvalidNumber, "value", value, padding, [], 0, value, None)
            self.fails(InvalidNumber, "value", value, padding, [(1, 1)], 0, 0, value)
            self.fails(InvalidNumber, "value", value, edit_delay, Edit({}, Clip.silence(3)), value)
        self.assertEqual(padding([(MOST, MOST)], MOST, MOST, MOST), [0])


class SizesTest(Case):

    def test_by_hand(self):
        state = ("state", START)
        one, behind = plain_record((3, HARD, 0, 1), [1, 2, 3], START)
        two = plain_record((2, HARD, 0, 1), [0, 0], START)[0]
        size, other = 40 + len(one[6]), 40 + len(two[6])
        for records, sizes in (([], []), ([state], []), ([one], [(size, 3)]), ([state, one], [(80 + size, 3)]),
                               ([one, state, state], [(size, 3)]),
                               ([state, state, two, state, one], [(160 + other, 2), (80 + size, 3)]),
                               ([two, state, one, state, state, state, one, state],
                                [(other, 2), (80 + size, 3), (240 + size, 3)])):
            self.assertEqual(frame_sizes(Stream(records)), sizes)
        self.assertEqual(frame_sizes(stream=Stream([one])), [(size, 3)])

    def test_streams(self):
        for seed in range(60):
            built = any_built(seed)
            stream = Stream(built.records)
            sizes = frame_sizes(stream)
            self.assertIs(type(sizes), list)
            self.assertEqual([length for size, length in sizes], [layout[0] for layout in built.layouts])
            last = built.blocks[-1][0] if built.blocks else -1
            self.assertEqual(sum(size for size, length in sizes), Stream(built.records[:last + 1]).size())
            for (size, length), block, before in zip(sizes, built.blocks, [(-1,)] + built.blocks):
                states = block[0] - before[0] - 1
                self.assertEqual(size, 80 * states + 40 + len(built.records[block[0]][6]))


class EditDelayTest(Case):

    def test_small_edits(self):
        for seed in range(500):
            streams, clip, pieces = any_edit(seed)
            edit = Edit(streams, clip)
            sizes = frame_sizes(edit.stream())
            for rate in RATES:
                self.assertEqual(edit_delay(edit, rate), least_delay(sizes, rate))
        self.assertEqual(edit_delay(edit=Edit({}, Clip.silence(0)), rate=7), 0)

    def test_repeats_of_many_copies(self):
        for seed in range(120):
            source = sequence(seed)
            streams = any_streams(source)
            sounds = {name: stream.sound() for name, stream in streams.items()}
            inner = any_clip(source, sounds, 2, 2)[0]
            behind = any_clip(source, sounds, 1, 2)[0]
            if inner.length and inner.pieces()[0][0] != "silence":
                for rate in RATES:
                    # As a function of the number of copies, the delay grows by the same amount from some copy on.
                    few = [edit_delay(Edit(streams, inner * n + behind), rate) for n in (30, 31)]
                    great = edit_delay(Edit(streams, inner * GREAT + behind), rate)
                    self.assertEqual(great, few[0] + (GREAT - 30) * (few[1] - few[0]))

    def test_repeats_in_repeats_and_long_silences(self):
        s = encode(integers(1, 12, 40), even_plan(12, 5, (2, 1), 1, 1), states=1)
        for rate in RATES:
            delays = {}
            for n in (2, 3, 4, 20, 21, 10 ** 12):
                clip = ((Clip.part("a", 0, 12) * 3 + Clip.silence(33)) * n + Clip.part("a", 2, 9)) * 2
                delays[n] = edit_delay(Edit({"a": s}, clip), rate)
                if n < 10 ** 12:
                    self.assertEqual(delays[n], least_delay(frame_sizes(Edit({"a": s}, clip).stream()), rate))
            self.assertEqual(delays[10 ** 12], delays[20] + (10 ** 12 - 20) * (delays[21] - delays[20]))
            delays = [edit_delay(Edit({}, Clip.silence(32 * n)), rate) for n in (50, 51, 10 ** 20)]
            self.assertEqual(delays[2], delays[0] + (10 ** 20 - 50) * (delays[1] - delays[0]))

    def test_repeats_as_deep_as_they_can_be(self):
        start = time.perf_counter()
        s = encode([1] * 10, even_plan(10, 3, (1, 1), 1, 1))
        clip, few = Clip.part("a", 0, 10), Clip.part("a", 0, 10)
        for level in range(99):
            clip = (clip + Clip.silence(1)) * 2
            few = (few + Clip.silence(1)) * 2 if level < 6 else few
        edit = Edit({"a": s}, clip)
        self.assertEqual(edit_delay(edit, MOST), least_delay(frame_sizes(Edit({"a": s}, few).stream()), MOST))
        # Without any rate the delay is the size of all records.
        sizes = [40 + len(record[6]) for record in s.records]
        made = 40 + len(plain_record((1, HARD, 2, 1), [0], START)[0][6])
        frames = 2 ** 99 * sum(sizes) + (2 ** 100 - 2) * made
        states = edit.total - 2 ** 99 * s.frames - (2 ** 100 - 2)
        self.assertEqual(edit_delay(edit, 0), frames + 80 * states)
        self.assertLess(time.perf_counter() - start, 10)


class PaddingTest(Case):

    def check(self, sizes, rate, delay, store, most):
        """All units up to a limit are tried; for each frame the sum up to it is the least one."""
        found = padding(sizes, rate, delay, store)
        good = [units for units in itertools.product(range(most + 1), repeat=len(sizes))
                if is_padding(sizes, units, rate, delay, store)]
        if not good:
            self.assertIs(type(found), tuple)
            self.check_impossible(sizes, rate, delay, store, found)
        else:
            self.assertIs(type(found), list)
            self.assertIn(tuple(found), good)
            for at in range(len(sizes)):
                self.assertEqual(sum(found[:at + 1]), min(sum(units[:at + 1]) for units in good))
        return bool(good)

    def check_impossible(self, sizes, rate, delay, store, found):
        """The least sums, frame by frame, without a look at what arrives in time."""
        starts, sums = starts_of(sizes), []
        for at in range(len(sizes)):
            total = sum(size for size, length in sizes[:at + 1])
            need = delay + rate * starts[at + 1] - store - total if at < len(sizes) - 1 else 0
            sums.append(max([0, need] + sums[-1:]))
        units = [high - low for low, high in zip([0] + sums, sums)]
        late = [at for at in range(len(sizes))
                if sum(size for size, length in sizes[:at + 1]) + sums[at] > delay + rate * starts[at]]
        added = [at for at in range(late[0]) if units[at]]
        self.assertEqual(found, (added[-1] + 1 if added else 0, late[0]))
        # The two frames show it by themselves.
        first, last = found
        arriving = sum(size for size, length in sizes[first:last + 1])
        own = units[last]
        self.assertGreater(arriving + own, (store if first else delay) + rate * (starts[last] - starts[first]))

    def test_against_the_definition(self):
        possible = 0
        for seed in range(700):
            source = sequence(seed)
            sizes = any_sizes(source, next(source) % 4, 6, 3)
            rate, delay, store = next(source) % 4, next(source) % 11, next(source) % 13
            possible += self.check(sizes, rate, delay, store, 12 if len(sizes) < 3 else 10)
        self.assertGreater(possible, 100)
        self.assertLess(possible, 600)

    def test_longer_ones(self):
        seen = set()
        for seed in range(2000):
            source = sequence(seed)
            sizes = any_sizes(source, 4 + next(source) % 8, 20, 3)
            rate, delay, store = 4 + next(source) % 6, next(source) % 60, 10 + next(source) % 60
            found = padding(sizes, rate, delay, store)
            if isinstance(found, tuple):
                self.check_impossible(sizes, rate, delay, store, found)
                seen.add(found[0] > 0)
                seen.add(found[0] == found[1])
            else:
                self.assertTrue(is_padding(sizes, found, rate, delay, store))
                seen.add(any(found))
                # One unit less, at any frame, is too few there, even if all are added later.
                for at in range(len(found)):
                    if found[at]:
                        less = found[:at] + [found[at] - 1] + found[at + 1:]
                        for later in range(at + 1, len(found)):
                            self.assertFalse(is_padding(sizes, less[:later] + [less[later] + 1] + less[later + 1:],
                                                        rate, delay, store))
        self.assertEqual(seen, {True, False})

    def test_by_hand(self):
        for arguments, found in ((([], 0, 0, 0), []), (([], MOST, MOST, 0), []), (([(0, 1)], 0, 0, 0), [0]),
                                 (([(5, 1)], 9, 5, 0), [0]), (([(5, 1)], 9, 4, 100), (0, 0)),
                                 (([(5, 1)], 9, 1000, 0), [0]), (([(5, 2), (5, 1)], 2, 6, 5), [0, 0]),
                                 (([(5, 2), (5, 1)], 2, 6, 4), (1, 1)), (([(5, 2), (4, 1)], 3, 6, 6), [1, 0]),
                                 (([(0, 1), (0, 1), (9, 1)], 1, 3, 2), (2, 2)),
                                 (([(2, 1), (9, 1), (9, 1)], 1, 3, 2), (0, 1)),
                                 (([(1, 1), (9, 1), (9, 1)], 1, 3, 2), (1, 1)),
                                 (([(0, 1), (9, 1), (0, 1)], 1, 3, 4), (0, 1))):
            self.assertEqual(padding(*arguments), found, arguments)
        self.assertEqual(padding(sizes=((5, 1), (5, 1)), rate=10, delay=10, store=12), [3, 0])

    def test_arguments_are_not_changed(self):
        sizes = [(5, 1), (5, 1)]
        before = copy.deepcopy(sizes)
        padding(sizes, 10, 10, 12).append(1)
        least_delay(sizes, 3)
        self.assertEqual(sizes, before)
        self.assertEqual(padding(sizes, 10, 10, 12), [3, 0])


if __name__ == "__main__":
    unittest.main()
