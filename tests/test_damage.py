import copy
import itertools
import unittest

from framejoins.damage import concealed, salvaged, touched, unread_frames
from framejoins.encoder import encode
from framejoins.errors import InvalidPlace, InvalidStream
from framejoins.seeking import index_of
from framejoins.streams import Stream, is_record
from framejoins.tables import read_numbers
from helpers import LARGE, NO_INTEGERS, Case, Fetch, sequence
from plain import HARD, START, Built, any_built, plain_coarse, plain_mark, plain_record, plain_sound, plainly_joined

NO_LISTS = (None, True, False, 0, 1, "", "01", b"", b"01", {}, {0: 1}, set(), {0}, range(3), object(), Stream([]))


def plain_unread(built, lost):
    return [frame for frame, block in enumerate(built.blocks)
            if any(built.origins[frame] <= record <= block[0] for record in lost)]


def plain_touched(built, lost):
    samples = set()
    for frame in plain_unread(built, lost):
        record, start, length, left, right = built.blocks[frame]
        samples.update(range(start - left[0], start + length + right[0]))
    stretches = []
    for place in sorted(samples):
        if place - 1 in samples:
            stretches[-1] = (stretches[-1][0], place + 1)
        else:
            stretches.append((place, place + 1))
    return stretches


def plain_concealed(built, lost):
    unread = plain_unread(built, lost)
    contents = [[0] * len(values) if frame in unread else values for frame, values in enumerate(built.contents)]
    return plain_sound(built.layouts, contents)


def plain_calls(built, lost):
    calls = set()
    for frame, block in enumerate(built.blocks):
        if frame not in plain_unread(built, lost):
            calls.update(range(built.origins[frame], block[0] + 1))
    return sorted(calls)


def any_lost(built, seed):
    """Some lists of lost records: none, each one, all, some, and indexes that no record has."""
    many = len(built.records)
    source = sequence(seed)
    yield []
    yield list(range(many))
    yield [many, many + 1, LARGE]
    for record in range(many):
        yield [record]
    for turn in range(8):
        some = [next(source) % (many + 2) for record in range(next(source) % 6)]
        yield some
        yield some[::-1] + some


class UnreadTest(Case):

    def test_example(self):
        index = index_of(encode([1, 2, 3, 4], [(2, (1, 0), 0, 1), (2, (0, 0), 0, 1)], states=1))
        self.assertEqual([unread_frames(index, [1]), touched(index, [1]), touched(index, [0])],
                         [[1], [(1, 4)], [(0, 3)]])

    def test_by_hand(self):
        layouts = [(4, (2, 1), 0, 1), (4, (1, 0), 0, 1), (4, HARD, 0, 1), (4, (3, 0), 0, 1), (4, HARD, 0, 1)]
        # The frames have the records 0, 2, 3, 6 and 7; state records are 1, 4, 5 and 8.
        built = Built(layouts, [[1] * 4] * 5, [[], [START], [], [START, START], [], [START]])
        index = index_of(Stream(built.records))
        for lost, frames, stretches in (
                ([0], [0], [(0, 6)]),
                ([1], [1, 2], [(2, 12)]),
                ([2], [1, 2], [(2, 12)]),
                ([3], [2], [(7, 12)]),
                ([4], [], []),
                ([5], [3, 4], [(12, 20)]),
                ([6], [3, 4], [(12, 20)]),
                ([7], [4], [(13, 20)]),
                ([8], [], []),
                ([3, 7], [2, 4], [(7, 12), (13, 20)]),
                ([0, 3], [0, 2], [(0, 6), (7, 12)]),
                ([3, 6], [2, 3, 4], [(7, 20)]),
                ([9, 20, 4, 8], [], [])):
            self.assertEqual(unread_frames(index, lost), frames, lost)
            self.assertEqual(touched(index, lost), stretches, lost)

    def test_streams(self):
        for seed in range(60):
            built = any_built(seed, limit=9)
            index = index_of(Stream(built.records))
            for lost in any_lost(built, seed):
                for kind in (list, tuple):
                    unread = unread_frames(index, kind(lost))
                    self.assertIs(type(unread), list)
                    self.assertEqual(unread, plain_unread(built, lost), lost)

    def test_by_name_and_new(self):
        index = index_of(Stream(any_built(8).records))
        lost = [index[-1][0]]
        unread_frames(index, lost).clear()
        touched(index, lost).clear()
        self.assertEqual(unread_frames(lost=lost, index=index), [len(index) - 1])
        self.assertEqual(touched(lost=lost, index=index), touched(index, tuple(lost)))
        self.assertNotEqual(touched(index, lost), [])


class TouchedTest(Case):

    def test_streams(self):
        for seed in range(60):
            built = any_built(seed, limit=9)
            index = index_of(Stream(built.records))
            for lost in any_lost(built, seed):
                stretches = touched(index, lost)
                self.assertEqual((type(stretches), {type(item) for item in stretches} - {tuple}), (list, set()))
                self.assertEqual(stretches, plain_touched(built, lost), lost)
                for start, end in stretches:
                    self.assertLess(start, end)
                for before, behind in itertools.pairwise(stretches):
                    self.assertLess(before[1], behind[0])

    def test_stretches_that_would_meet_are_one(self):
        for joint, between, expected in (((1, 0), 2, [(0, 10)]), ((1, 0), 3, [(0, 5), (6, 11)]),
                                         (HARD, 1, [(0, 4), (5, 9)])):
            layouts = [(4, joint, 0, 1), (between, joint, 0, 1), (4, HARD, 0, 1)]
            built = Built(layouts, [[1] * layout[0] for layout in layouts], [[], [START], [START], []])
            index = index_of(Stream(built.records))
            self.assertEqual(touched(index, [0, 4]), expected)
        layouts = [(4, HARD, 0, 1)] * 3
        built = Built(layouts, [[1] * 4] * 3, [[], [START], [START], []])
        index = index_of(Stream(built.records))
        self.assertEqual(touched(index, [0, 2]), [(0, 8)])
        self.assertEqual(touched(index, [4, 0]), [(0, 4), (8, 12)])


class ConcealedTest(Case):

    def check(self, built, lost):
        index = index_of(Stream(built.records))
        records = [None if record in lost else value for record, value in enumerate(built.records)]
        for kind in (list, tuple):
            fetch = Fetch(records)
            sound = concealed(index, fetch, kind(lost))
            self.assertIs(type(sound), list)
            self.assertEqual(sound, plain_concealed(built, lost), lost)
            self.assertEqual(fetch.calls, plain_calls(built, lost), lost)
        other = set()
        for start, end in touched(index, lost):
            other.update(range(start, end))
        for place, (sample, undamaged) in enumerate(zip(sound, built.sound)):
            if place not in other:
                self.assertEqual(sample, undamaged)

    def test_streams(self):
        for seed in range(60):
            built = any_built(seed, limit=9, size=LARGE if seed % 9 == 0 else 40)
            for lost in any_lost(built, seed):
                self.check(built, lost)

    def test_long_streams(self):
        for seed in range(60, 70):
            built = any_built(seed)
            for lost in any_lost(built, seed):
                self.check(built, lost)

    def test_by_hand(self):
        stream = encode([10, 20, 30, 40], [(2, (1, 2), 0, 1), (2, HARD, 0, 1)], states=1)
        index = index_of(stream)
        # The blocks are 10, 32 and 16, 40; with a 0 for the lost value, the pairs of the joint are 32, 0 and 0, 16.
        fetch = Fetch(stream.records)
        self.assertEqual(concealed(index, fetch, []), [10, 20, 30, 40])
        self.assertEqual(fetch.calls, [0, 1, 2])
        fetch = Fetch(stream.records)
        self.assertEqual(concealed(index, fetch, [2]), [10, 28, 16, 0])
        self.assertEqual(fetch.calls, [0])
        fetch = Fetch(stream.records)
        self.assertEqual(concealed(index, fetch, [0]), [0, -8, 14, 40])
        self.assertEqual(fetch.calls, [1, 2])
        fetch = Fetch(stream.records)
        self.assertEqual(concealed(index, fetch, [0, 1]), [0, 0, 0, 0])
        self.assertEqual(fetch.calls, [])

    def test_all_lost_and_no_frames(self):
        for built in (any_built(8), Built([], [], [[]]), Built([], [], [[START] * 3])):
            self.check(built, list(range(len(built.records))))
            self.check(built, [])

    def test_state_records_that_are_no_origin_are_not_fetched(self):
        built = Built([(2, HARD, 0, 1)] * 2, [[1, 2], [3, 4]], [[], [START] * 3, [START] * 2])
        fetch = Fetch(built.records)
        self.assertEqual(concealed(index_of(Stream(built.records)), fetch, []), [1, 2, 3, 4])
        self.assertEqual(fetch.calls, [0, 3, 4])

    def test_records_that_are_not_as_the_index_tells(self):
        for seed in range(25):
            built = any_built(seed, limit=9)
            index = index_of(Stream(built.records))
            for lost in ([], [0], [seed % 5, 7]):
                calls = plain_calls(built, lost)
                for at in range(len(built.records)):
                    own = built.records[at]
                    others = [None, True, list(own), own[:-1], own[0], Stream([])]
                    if own[0] == "frame":
                        others += [("state", START), own[:6] + (own[6] + "0",), own[:5] + ((own[5] + 1) % 9973, own[6]),
                                   own[:4] + (own[4] % 64 + 1,) + own[5:], own[:3] + ((own[3] + 1) % 6,) + own[4:],
                                   (own[0], own[1] % 64 + 1) + own[2:], own[:2] + ((8, 3),) + own[3:]]
                    else:
                        others.append(plain_record((1, HARD, 0, 1), [0], START)[0])
                    for value in others:
                        records = list(built.records)
                        records[at] = value
                        if value == own:
                            continue
                        fetch = Fetch(records)
                        if at in calls:
                            self.fails(InvalidStream, "index", at, concealed, index, fetch, lost)
                            self.assertEqual(fetch.calls, calls[:calls.index(at) + 1])
                        else:
                            self.assertEqual(concealed(index, fetch, lost), plain_concealed(built, lost))

    def test_by_name(self):
        built = any_built(8)
        index = index_of(Stream(built.records))
        self.assertEqual(concealed(lost=[], fetch=Fetch(built.records), index=index), built.sound)


class WrongLostTest(Case):

    def calls(self):
        built = any_built(8)
        index = index_of(Stream(built.records))
        fetch = Fetch(built.records)
        for index in (index, []):
            yield lambda lost: unread_frames(index, lost)
            yield lambda lost: touched(index, lost)
            yield lambda lost: concealed(index, fetch, lost)
        self.assertEqual(fetch.calls, [])

    def test_no_lists(self):
        for call in self.calls():
            for lost in NO_LISTS:
                self.fails(InvalidPlace, "value", None, call, lost)

    def test_items(self):
        for call in self.calls():
            for item in NO_INTEGERS + (-1, -2, -LARGE, Stream([])):
                self.fails(InvalidPlace, "value", item, call, [item])
                self.fails(InvalidPlace, "value", item, call, (0, 0, item, None, -1))
                self.fails(InvalidPlace, "value", item, call, [LARGE, item, item])

    def test_lost_comes_before_the_records(self):
        index = index_of(Stream(any_built(8).records))
        self.fails(InvalidPlace, "value", -1, concealed, index, lambda at: None, [-1])

    def test_nothing_is_changed(self):
        built = any_built(8)
        index = index_of(Stream(built.records))
        lost = [4, 1, 1, 90]
        before = copy.deepcopy((index, lost, built.records))
        unread_frames(index, lost)
        touched(index, lost)
        concealed(index, built.records.__getitem__, lost).clear()
        salvaged(index, built.records)
        self.assertEqual((index, lost, built.records), before)


def plainly_salvaged(built, records):
    """What the document tells of records in the places of a stream."""
    places = {block[0]: frame for frame, block in enumerate(built.blocks)}
    contents = [[0] * layout[0] for layout in built.layouts]
    lost, tables = [], START
    for at, value in enumerate(records):
        found = None
        if at in places:
            if tables is None:
                continue
            layout = built.layouts[places[at]]
            if is_record(value) and value[0] == "frame" and value[1:5] == layout:
                read = read_numbers(value[6], layout[0], plain_coarse(layout[0], layout[2]), tables)
                if read is not None and plain_mark(read[0]) == value[5]:
                    contents[places[at]] = plainly_joined([n * layout[3] for n in read[0]], layout[2])
                    found = read[1]
        elif is_record(value) and value[0] == "state":
            found = value[1]
        if found is None:
            lost.append(at)
        tables = found
    return plain_sound(built.layouts, contents), lost


class SalvagedTest(Case):

    def check(self, built, records):
        index = index_of(Stream(built.records))
        for kind in (list, tuple):
            result = salvaged(index, kind(records))
            self.assertEqual((type(result), type(result[0]), type(result[1])), (tuple, list, list))
            self.assertEqual(result, plainly_salvaged(built, records))
        return result

    def test_good_records(self):
        for seed in range(60):
            built = any_built(seed)
            self.assertEqual(self.check(built, built.records), (built.sound, []))

    def test_lost_records(self):
        for seed in range(50):
            built = any_built(seed, limit=9)
            index = index_of(Stream(built.records))
            for lost in any_lost(built, seed):
                records = [None if at in lost else record for at, record in enumerate(built.records)]
                sound, found = self.check(built, records)
                self.assertEqual(sound, plain_concealed(built, lost))
                self.assertEqual(unread_frames(index, found), unread_frames(index, lost))
                self.assertLessEqual(set(found), set(lost))

    def test_by_hand(self):
        layouts = [(2, (1, 0), 0, 1), (2, HARD, 0, 1), (2, HARD, 0, 1), (1, HARD, 0, 1)]
        # The frames have the records 0, 1, 3 and 6; state records are 2, 4, 5 and 7.
        built = Built(layouts, [[9, 9], [1, 2], [3, 4], [5]], [[], [], [START], [START, START], [START]])
        good = built.records
        for wrong, lost, contents in (
                ({}, [], [[9, 9], [1, 2], [3, 4], [5]]),
                ({0: None}, [0], [[0, 0], [0, 0], [3, 4], [5]]),
                ({0: None, 1: None}, [0], [[0, 0], [0, 0], [3, 4], [5]]),
                ({1: None}, [1], [[9, 9], [0, 0], [3, 4], [5]]),
                ({2: None}, [2], [[9, 9], [1, 2], [0, 0], [5]]),
                ({2: None, 3: None}, [2], [[9, 9], [1, 2], [0, 0], [5]]),
                ({3: None, 4: None}, [3, 4], [[9, 9], [1, 2], [0, 0], [5]]),
                ({4: None}, [4], [[9, 9], [1, 2], [3, 4], [5]]),
                ({4: None, 5: None, 6: None, 7: None}, [4, 5, 7], [[9, 9], [1, 2], [3, 4], [0]]),
                ({5: good[6], 6: good[5]}, [5], [[9, 9], [1, 2], [3, 4], [0]]),
                ({6: good[5]}, [6], [[9, 9], [1, 2], [3, 4], [0]]),
                ({7: good[6]}, [7], [[9, 9], [1, 2], [3, 4], [5]]),
                ({1: good[3]}, [1], [[9, 9], [0, 0], [3, 4], [5]])):
            records = list(good)
            for at, value in wrong.items():
                records[at] = value
            self.assertEqual(self.check(built, records), (plain_sound(layouts, contents), lost), wrong)

    def test_changed_records(self):
        for seed in range(12):
            built = any_built(seed, limit=9)
            for at, own in enumerate(built.records):
                others = [None, True, "frame", b"", (), [], list(own), own[:-1], own + (0,), Stream([]), object()]
                if own[0] == "frame":
                    others += [own[:6] + (own[6] + "0",), own[:6] + (own[6][:-1],), own[:5] + (-1, own[6]),
                               own[:5] + ((own[5] + 1) % 9973, own[6]), own[:4] + (own[4] % 64 + 1,) + own[5:],
                               own[:3] + ((own[3] + 1) % 6,) + own[4:], own[:2] + ((1 + own[2][0] % 8, 3),) + own[3:],
                               (own[0], own[1] % 64 + 1) + own[2:], ("state", START)]
                else:
                    others.append(plain_record((1, HARD, 0, 1), [0], START)[0])
                for value in others:
                    records = list(built.records)
                    records[at] = value
                    sound, lost = self.check(built, records)
                    self.assertEqual(lost[:1], [at])

    def test_numbers_that_were_read(self):
        for seed in range(40):
            built = any_built(seed, limit=9)
            for frame, (record, start, length, left, right) in enumerate(built.blocks):
                numbers = [number + 1 for number in built.numbers[frame]]
                other = plain_record(built.layouts[frame], numbers, built.before[frame])[0]
                records = list(built.records)
                records[record] = other
                sound, lost = self.check(built, records)
                self.assertNotIn(record, lost)

    def test_other_tables_in_state_records(self):
        changed = 0
        for seed in range(40):
            built = any_built(seed, limit=9)
            for at, own in enumerate(built.records):
                if own[0] == "state":
                    for tables in (START, ((0, 1), (0, 1)), ((own[1][0][0] + 1, own[1][0][1]), own[1][1])):
                        records = list(built.records)
                        records[at] = ("state", tables)
                        sound, lost = self.check(built, records)
                        self.assertNotIn(at, lost)
                        changed += len(lost) > 0
        self.assertGreater(changed, 20)

    def test_exchanged_records(self):
        for seed in range(30):
            built = any_built(seed, limit=9)
            for at in range(len(built.records) - 1):
                records = list(built.records)
                records[at], records[at + 1] = records[at + 1], records[at]
                self.check(built, records)
            self.check(built, built.records[::-1])

    def test_more_items_than_records(self):
        for seed in range(20):
            built = any_built(seed, limit=9)
            many = len(built.records)
            frame = plain_record((1, HARD, 0, 1), [0], START)[0]
            more = built.records + [("state", START), None, frame, ("state", START), True]
            self.assertEqual(self.check(built, more), (built.sound, [many + 1, many + 2, many + 4]))

    def test_fewer_items(self):
        for seed in range(40):
            built = any_built(seed, limit=9)
            index = index_of(Stream(built.records))
            least = built.blocks[-1][0] + 1 if built.blocks else 0
            for many in range(len(built.records) + 1):
                if many >= least:
                    self.assertEqual(self.check(built, built.records[:many]), (built.sound, []))
                else:
                    self.fails(InvalidStream, "index", None, salvaged, index, built.records[:many])
                    self.fails(InvalidStream, "index", None, salvaged, index, (None,) * many)

    def test_no_lists(self):
        for built in (any_built(8), Built([], [], [[]])):
            index = index_of(Stream(built.records))
            for records in NO_LISTS + (Stream(built.records),):
                self.fails(InvalidStream, "index", None, salvaged, index, records)

    def test_without_frames(self):
        self.assertEqual(salvaged([], []), ([], []))
        self.assertEqual(salvaged([], (None, ("state", START), True)), ([], [0, 2]))

    def test_by_name_and_new(self):
        built = any_built(8)
        index = index_of(Stream(built.records))
        self.assertEqual(salvaged(records=built.records, index=index), (built.sound, []))
        salvaged(index, built.records)[0].clear()
        salvaged(index, built.records)[1].append(0)
        self.assertEqual(salvaged(index, built.records), (built.sound, []))


if __name__ == "__main__":
    unittest.main()
