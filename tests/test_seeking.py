import copy
import unittest

from framejoins.encoder import encode, even_plan
from framejoins.errors import InvalidPlace, InvalidStream
from framejoins.seeking import index_of, needed_records, read_part
from framejoins.streams import Stream
from helpers import LARGE, NO_INTEGERS, Case, Fetch, integers
from plain import HARD, START, Built, any_built, plain_record, plainly_written


def plain_frames(built, start, end):
    """The frames that the document tells for a stretch, sample by sample."""
    frames = set()
    for place in range(start, end):
        for frame, (record, first, length, left, right) in enumerate(built.blocks):
            if first <= place < first + length:
                frames.add(frame)
                if place < first + left[0]:
                    frames.add(frame - 1)
                if place >= first + length - right[0]:
                    frames.add(frame + 1)
    return sorted(frames)


def plain_needed(built, start, end):
    records = set()
    for frame in plain_frames(built, start, end):
        records.update(range(built.origins[frame], built.blocks[frame][0] + 1))
    return sorted(records)


def stretches(length):
    """All stretches of a short sound, and some of a long one."""
    places = list(range(length + 1))
    if length > 24:
        places = sorted({place * length // 15 for place in range(16)} | {1, length - 1})
    return [(start, end) for start in places for end in places if start <= end]


class IndexTest(Case):

    def test_example(self):
        s = encode([1, 2, 3, 4], [(2, (1, 0), 0, 1), (2, (0, 0), 0, 1)], states=1)
        index = index_of(s)
        self.assertEqual([index[1], needed_records(index, 3, 4), needed_records(index, 2, 3)],
                         [(2, 2, 2, (1, 0), (0, 0), 0, 1, 1), [1, 2], [0, 1, 2]])

    def test_with_and_without_states(self):
        for seed in range(150):
            built = any_built(seed)
            index = index_of(Stream(built.records))
            self.assertEqual(index, built.index)
            self.assertIs(type(index), list)
            self.assertEqual({type(entry) for entry in index}, {tuple} if index else set())

    def test_by_hand(self):
        first, behind = plain_record((3, (2, 1), 2, 5), [1, 2, 3], START)
        second, behind = plain_record((4, HARD, 1, 7), [1, 2, 3, 4], behind)
        other = ("state", ((0, 3), (9, 9)))
        third = plain_record((1, HARD, 0, 2), [-4], other[1])[0]
        self.assertEqual(index_of(Stream([first, second, other, other, third, other])),
                         [(0, 0, 3, HARD, (2, 1), 2, 5, 0), (1, 3, 4, (2, 1), HARD, 1, 7, 0),
                          (4, 7, 1, HARD, HARD, 0, 2, 3)])
        self.assertEqual(index_of(Stream([("state", START), first, second])),
                         [(1, 0, 3, HARD, (2, 1), 2, 5, 0), (2, 3, 4, (2, 1), HARD, 1, 7, 0)])

    def test_without_frames(self):
        self.assertEqual(index_of(Stream([])), [])
        self.assertEqual(index_of(Stream([("state", START)] * 3)), [])

    def test_by_name_and_new(self):
        stream = Stream(any_built(8).records)
        index_of(stream=stream).clear()
        self.assertEqual(len(index_of(stream)), stream.frames)


class NeededTest(Case):

    def check(self, built, start, end):
        index = index_of(Stream(built.records))
        needed = needed_records(index, start, end)
        self.assertIs(type(needed), list)
        self.assertEqual(needed, plain_needed(built, start, end), (start, end))

    def test_stretches_of_streams(self):
        for seed in range(60):
            built = any_built(seed, limit=5)
            for start, end in stretches(built.length):
                self.check(built, start, end)

    def test_stretches_of_long_streams(self):
        for seed in range(60, 75):
            built = any_built(seed)
            for start, end in stretches(built.length):
                self.check(built, start, end)

    def test_single_samples(self):
        for seed in range(12):
            built = any_built(seed)
            for place in range(built.length):
                self.check(built, place, place + 1)

    def test_whole_blocks(self):
        for seed in range(40):
            built = any_built(seed)
            for record, start, length, left, right in built.blocks:
                self.check(built, start, start + length)

    def test_joints_of_all_widths(self):
        for width in range(9):
            joint = (width, width % 4 if width else 0)
            layouts = [(9, HARD, 0, 1), (9, joint, 0, 1), (9, HARD, 0, 1), (9, HARD, 0, 1)]
            built = Built(layouts, [[1] * 9] * 4, [[], [START], [START], [START], []])
            index = index_of(Stream(built.records))
            # The records are: 0, a state and the frame 2, a state and the frame 4, a state and the frame 6.
            for distance in range(1, 10):
                left = [1, 2, 3, 4] if distance <= width else [1, 2]
                right = [1, 2, 3, 4] if distance <= width else [3, 4]
                self.assertEqual(needed_records(index, 18 - distance, 19 - distance), left)
                self.assertEqual(needed_records(index, 17 + distance, 18 + distance), right)
            self.assertEqual(needed_records(index, 9, 18 - width), [1, 2])
            self.assertEqual(needed_records(index, 18 + width, 27), [3, 4])
            self.assertEqual(needed_records(index, 0, 9), [0])
            self.assertEqual(needed_records(index, 27, 36), [5, 6])

    def test_states_side_by_side(self):
        built = Built([(2, HARD, 0, 1)] * 3, [[1, 2]] * 3, [[START] * 2, [START] * 3, [], [START]])
        index = index_of(Stream(built.records))
        self.assertEqual(needed_records(index, 0, 1), [1, 2])
        self.assertEqual(needed_records(index, 0, 2), [1, 2])
        self.assertEqual(needed_records(index, 2, 4), [5, 6])
        self.assertEqual(needed_records(index, 5, 6), [5, 6, 7])
        self.assertEqual(needed_records(index, 0, 6), [1, 2, 5, 6, 7])
        self.assertEqual(needed_records(index, 1, 3), [1, 2, 5, 6])

    def test_empty_stretches(self):
        for seed in range(30):
            built = any_built(seed)
            index = index_of(Stream(built.records))
            for place in range(built.length + 1):
                self.assertEqual(needed_records(index, place, place), [])

    def test_by_name_and_new(self):
        index = index_of(Stream(any_built(8).records))
        needed_records(index, 0, 9).clear()
        self.assertEqual(needed_records(end=9, start=0, index=index), needed_records(index, 0, 9))
        self.assertNotEqual(needed_records(index, 0, 9), [])


class ReadTest(Case):

    def check(self, built, index, start, end):
        fetch = Fetch(built.records)
        part = read_part(index, fetch, start, end)
        self.assertIs(type(part), list)
        self.assertEqual(part, built.sound[start:end], (start, end))
        self.assertEqual(fetch.calls, plain_needed(built, start, end))

    def test_stretches_of_streams(self):
        for seed in range(60):
            built = any_built(seed, limit=5, size=LARGE if seed % 9 == 0 else 40)
            index = index_of(Stream(built.records))
            for start, end in stretches(built.length):
                self.check(built, index, start, end)

    def test_stretches_of_long_streams(self):
        for seed in range(60, 75):
            built = any_built(seed)
            index = index_of(Stream(built.records))
            for start, end in stretches(built.length):
                self.check(built, index, start, end)

    def test_whole_blocks_and_single_samples(self):
        for seed in range(20):
            built = any_built(seed, limit=20)
            index = index_of(Stream(built.records))
            for record, start, length, left, right in built.blocks:
                self.check(built, index, start, start + length)
                for place in (start, start + length - 1):
                    self.check(built, index, place, place + 1)
            self.check(built, index, 0, built.length)

    def test_encoded_sounds(self):
        sound = integers(5, 200, 10 ** 6)
        for states in (0, 1, 3):
            stream = encode(sound, even_plan(200, 11, (5, 2), 3, 1), states=states)
            index = index_of(stream)
            for start, end in stretches(200):
                self.assertEqual(read_part(index, stream.records.__getitem__, start, end), sound[start:end])

    def test_empty_stretches(self):
        for built in (any_built(8), Built([], [], [[]]), Built([], [], [[START]])):
            index = index_of(Stream(built.records))
            for place in range(built.length + 1):
                self.check(built, index, place, place)

    def test_by_name(self):
        built = any_built(8)
        index = index_of(Stream(built.records))
        self.assertEqual(read_part(end=5, start=2, fetch=Fetch(built.records), index=index), built.sound[2:5])

    def test_nothing_is_changed(self):
        built = any_built(8)
        index = index_of(Stream(built.records))
        before, records = copy.deepcopy(index), list(built.records)
        read_part(index, built.records.__getitem__, 0, built.length).clear()
        needed_records(index, 0, built.length)
        self.assertEqual((index, built.records), (before, records))

    def test_records_of_another_stream_with_the_same_index(self):
        layouts = [(3, (1, 1), 1, 2), (4, (2, 2), 2, 1), (5, HARD, 0, 9)]
        numbers = [[5, -1, 7], [0, 2, -8, 4], [9, 9, 0, 1, -1]]
        other = [[0, 4, 6], [1, 1, 1, 1], [-3, 5, 0, 0, 100]]
        states = [[], [START], [], []]
        built, second = Built(layouts, numbers, states), Built(layouts, other, [[], [((7, 9), (0, 1))], [], []])
        self.check(second, index_of(Stream(built.records)), 0, 12)
        self.check(second, built.index, 2, 8)


class WrongRecordsTest(Case):

    def check(self, built, at, value):
        """The value in the place of a record is found in each stretch that needs the record, and in no other."""
        index = index_of(Stream(built.records))
        records = list(built.records)
        records[at] = value
        for start, end in stretches(built.length):
            fetch = Fetch(records)
            needed = plain_needed(built, start, end)
            if at in needed:
                self.fails(InvalidStream, "index", at, read_part, index, fetch, start, end)
                self.assertEqual(fetch.calls, needed[:needed.index(at) + 1])
            else:
                self.assertEqual(read_part(index, fetch, start, end), built.sound[start:end])
                self.assertEqual(fetch.calls, needed)

    def setUp(self):
        layouts = [(2, (1, 2), 1, 3), (3, (2, 0), 0, 1), (4, HARD, 2, 1), (1, HARD, 5, 64)]
        numbers = [[4, -1], [0, 9, -3], [1, 0, 0, -2], [6]]
        self.built = Built(layouts, numbers, [[], [START, ((1, 1), (5, 2))], [], [((0, 1), (0, 1))], [START]])
        self.frames = [block[0] for block in self.built.blocks]

    def test_other_kinds(self):
        for at in range(len(self.built.records)):
            own = self.built.records[at]
            others = (0, own[0], list(own), own[:-1], own + own[-1:], (own,), Stream([]), object(), own[::-1])
            for value in NO_INTEGERS + others:
                self.check(self.built, at, value)

    def test_frames_for_states_and_states_for_frames(self):
        for at in range(len(self.built.records)):
            for other in self.built.records:
                if (other[0] == "state") != (self.built.records[at][0] == "state"):
                    self.check(self.built, at, other)

    def test_other_lengths_joints_levels_and_steps(self):
        for frame, at in enumerate(self.frames):
            length, joint, levels, step = self.built.layouts[frame]
            numbers, tables = self.built.numbers[frame], self.built.before[frame]
            others = [(length + 1, joint, levels, step), (length, (2, 1), levels, step),
                      (length, joint, levels, step % 64 + 1), (length, joint, (levels + 1) % 6, step),
                      (length, (joint[0] + 1, 0), levels, step)]
            if joint[0]:
                others += [(length, (joint[0], (joint[1] + 1) % 4), levels, step), (length, HARD, levels, step)]
            if length > 1:
                others.append((length - 1, joint, levels, step))
            for layout in others:
                self.check(self.built, at, plain_record(layout, (numbers + [0])[:layout[0]], tables)[0])

    def test_truth_values_are_no_levels_and_steps(self):
        layouts = [(1, HARD, 0, 1), (1, HARD, 1, 1), (1, (1, 0), 0, 1), (1, HARD, 0, 2)]
        built = Built(layouts, [[0], [1], [2], [3]], [[]] * 5)
        for frame, at in enumerate(block[0] for block in built.blocks):
            record = built.records[at]
            for place in (1, 3, 4):
                if record[place] in (0, 1):
                    self.check(built, at, record[:place] + (bool(record[place]),) + record[place + 1:])
            self.check(built, at, record[:2] + ((record[2][0], False),) + record[3:])

    def test_wrong_bits_and_marks(self):
        for frame, at in enumerate(self.frames):
            record = self.built.records[at]
            for bits in (record[6] + "0", record[6][1:], record[6][:-1], "", record[6] + "x"):
                self.check(self.built, at, record[:6] + (bits,))
            for mark in ((record[5] + 1) % 9973, (record[5] + 9972) % 9973, 9973, -1):
                self.check(self.built, at, record[:5] + (mark,) + record[6:])

    def test_the_mark_of_other_numbers(self):
        for frame, at in enumerate(self.frames):
            numbers = list(self.built.numbers[frame])
            numbers[-1] += 1
            changed = plain_record(self.built.layouts[frame], numbers, self.built.before[frame])[0]
            self.check(self.built, at, self.built.records[at][:6] + (changed[6],))
            self.check(self.built, at, changed[:6] + (self.built.records[at][6],))

    def test_another_state_record_is_read(self):
        numbers = [[0, 1], [3, 5]]
        built = Built([(2, HARD, 0, 1)] * 2, numbers, [[], [START], []])
        index = index_of(Stream(built.records))
        records = list(built.records)
        records[1] = ("state", ((0, 1), (0, 1)))
        self.fails(InvalidStream, "index", 2, read_part, index, Fetch(records), 2, 4)
        records[2] = records[2][:6] + (plainly_written([3, 5], 2, ((0, 1), (0, 1)))[0],)
        self.assertEqual(read_part(index, Fetch(records), 0, 4), [0, 1, 3, 5])

    def test_the_first_of_several(self):
        index = index_of(Stream(self.built.records))
        records = [None] * len(self.built.records)
        for start, end in stretches(self.built.length):
            needed = plain_needed(self.built, start, end)
            if needed:
                self.fails(InvalidStream, "index", needed[0], read_part, index, Fetch(records), start, end)

    def test_errors_of_fetch_pass(self):
        index = index_of(Stream(self.built.records))
        with self.assertRaises(ZeroDivisionError):
            read_part(index, lambda at: 1 // 0, 0, 1)
        self.assertEqual(read_part(index, lambda at: 1 // 0, 1, 1), [])


class PlacesTest(Case):

    def test_wrong_places(self):
        for built in (any_built(8), Built([(1, HARD, 0, 1)], [[5]], [[], []]), Built([], [], [[START]])):
            index = index_of(Stream(built.records))
            fetch = Fetch(built.records)
            for call in (needed_records, lambda index, start, end: read_part(index, fetch, start, end)):
                for place in NO_INTEGERS + (-1, built.length + 1, LARGE, -LARGE):
                    self.fails(InvalidPlace, "value", place, call, index, place, 0)
                    self.fails(InvalidPlace, "value", place, call, index, 0, place)
                    self.fails(InvalidPlace, "value", place, call, index, built.length, place)
                    self.fails(InvalidPlace, "value", place, call, index, place, -2)
                    self.fails(InvalidPlace, "value", place, call, index, place, None)
            self.assertEqual(fetch.calls, [])

    def test_end_before_start(self):
        built = any_built(8)
        index = index_of(Stream(built.records))
        fetch = Fetch(built.records)
        for start in range(1, built.length + 1):
            for end in (0, start // 2, start - 1):
                self.fails(InvalidPlace, "value", end, needed_records, index, start, end)
                self.fails(InvalidPlace, "value", end, read_part, index, fetch, start, end)
        self.assertEqual(fetch.calls, [])

    def test_places_come_before_records(self):
        built = any_built(8)
        index = index_of(Stream(built.records))
        self.fails(InvalidPlace, "value", 0, read_part, index, lambda at: None, 1, 0)
        self.fails(InvalidPlace, "value", None, read_part, index, lambda at: None, 0, None)


if __name__ == "__main__":
    unittest.main()
