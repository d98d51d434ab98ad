import copy
import time
import unittest

from framejoins.clips import Clip
from framejoins.edits import Edit, joined, repeated, stretch
from framejoins.encoder import encode, even_plan
from framejoins.errors import InvalidNumber, InvalidPlace, LimitExceeded, UnknownName
from framejoins.streams import Stream
from helpers import LARGE, NO_INTEGERS, Case, integers, sequence
from plain import HARD, START, any_built, plain_record, plainly_split
from plain_clips import any_clip, spelled_out
from plain_edits import ALL_JOINTS, PlainEdit, any_small_stream, any_streams, many_staying, plain_edits

GREAT = 10 ** 30
EMPTY = Clip.silence(0)


def even(many, block=4, joint=HARD, levels=1, states=0):
    plan = even_plan(min(many, 20000), block, joint, levels, 1)
    if many > 20000:
        plan.append((many - 20000, HARD, levels, 1))
    return encode(integers(many, many, 9), plan, states=states)


def new_frame(values, joint=HARD):
    return plain_record((len(values), joint, 2, 1), plainly_split(values, 2), START)


def whole(stream, name="a"):
    return Clip.part(name, 0, stream.length)


class PlainTest(Case):

    def check(self, streams, clip, plain):
        edit = Edit(streams, clip)
        self.assertEqual(edit.all_rows(), plain.rows)
        self.assertEqual(edit.all_records(), plain.records)
        self.assertEqual((edit.kept(), edit.renewed()), (plain.kept, plain.renewed))
        self.assertEqual((edit.length, edit.total), (len(plain.samples), len(plain.records)))
        self.assertEqual([edit.record(index) for index in range(edit.total)], plain.records)
        self.assertEqual([edit.row(index) for index in range(edit.total)], plain.rows)
        self.assertEqual([edit.sample(place) for place in range(edit.length)], plain.samples)
        stream = edit.stream()
        self.assertEqual((stream.records, stream.sound()), (plain.records, plain.samples))
        sounds = {name: source.sound() for name, source in streams.items()}
        self.assertEqual(plain.samples, spelled_out(clip.pieces(), sounds))

    def test_edits_of_all_kinds(self):
        seen = set()
        for streams, clip, plain in plain_edits(range(1500)):
            self.check(streams, clip, plain)
            seen.update(row[:2] if row[0] == "new" else row[:1] for row in plain.rows)
        self.assertLessEqual({("state",), ("kept",), ("new", "made"), ("new", "rest"), ("new", "left"),
                              ("new", "joint")}, seen)

    def test_as_many_old_frames_stay_as_in_any_stream(self):
        # All choices of all joints together, not each stretch of them by itself.
        tried = 0
        for streams, clip, plain in plain_edits(range(4000, 5000), most=60):
            many = 1
            options = []
            for at, joint in enumerate(plain.joints):
                room = min(len(plain.units[at].samples), len(plain.units[at + 1].samples))
                options.append([joint] if joint else [other for other in ALL_JOINTS if other[0] <= room])
                many *= len(options[-1])
            if 1 < many <= 400:
                tried += 1
                self.check_all_choices(Edit(streams, clip), plain, options)
        self.assertGreater(tried, 150)

    def check_all_choices(self, edit, plain, options):
        choices = [[]]
        for some in options:
            choices = [choice + [joint] for choice in choices for joint in some]
        best = []
        for choice in choices:
            ends = [HARD] + choice + [HARD]
            if all(ends[at][0] + ends[at + 1][0] <= len(unit.samples) for at, unit in enumerate(plain.units)):
                best.append((many_staying(plain.units, choice), choice))
        most = max(many for many, choice in best)
        self.assertEqual(edit.kept(), most)
        frames = [record for record in edit.all_records() if record[0] == "frame"]
        self.assertEqual([record[2] for record in frames][:-1], min(choice for many, choice in best if many == most))

    def test_reasons_that_are_rare(self):
        # The joint between the parts is the old one of both; only the frame behind it keeps its values.
        found = 0
        for seed in range(4000):
            source = sequence(seed)
            sound = [next(source) % 5 for place in range(8 + next(source) % 4)]
            streams = {name: any_small_stream(source, [v + (next(source) % 4 == 0) for v in sound]) for name in "ab"}
            ends = [[streams[name].block(frame)[1] for frame in range(streams[name].frames)] for name in "ab"]
            place = min(set(ends[0][1:]) & set(ends[1][1:]), default=None)
            if place is None:
                continue
            clip = Clip.part("a", 0, place) + Clip.part("b", place, streams["b"].length)
            plain = PlainEdit(streams, clip.pieces()).finish()
            found += plain.rows.count(("new", "right"))
            self.assertEqual(Edit(streams, clip).all_rows(), plain.rows)
            if found >= 3:
                break
        self.assertGreaterEqual(found, 3)


class UnitsTest(Case):

    def test_example(self):
        s = encode([1, 2, 3, 4, 5, 6], [(2, (1, 0), 0, 1), (2, (0, 0), 0, 1), (2, (0, 0), 0, 1)])
        e = Edit({'a': s}, Clip.part('a', 2, 6))
        self.assertEqual([s.contents(1), e.all_rows(), e.stream().sound(), s.tables_before(2)],
                         [[4, 4], [('new', 'left'), ('state',), ('kept', 'a', 2)], [3, 4, 5, 6], ((20, 5), (2, 1))])

    def lengths(self, edit):
        return [record[1] for record in edit.all_records() if record[0] == "frame"]

    def rows(self, edit):
        return [row for row in edit.all_rows() if row != ("state",)]

    def test_parts_within_blocks(self):
        s = even(12)
        for start, end, lengths, kinds in ((1, 3, [2], "r"), (0, 3, [3], "r"), (1, 4, [3], "r"), (0, 4, [4], "k"),
                                           (3, 5, [1, 1], "rr"), (3, 9, [1, 4, 1], "rkr"), (4, 12, [4, 4], "kk"),
                                           (0, 11, [4, 4, 3], "kkr"), (1, 12, [3, 4, 4], "rkk")):
            edit = Edit({"a": s}, Clip.part("a", start, end))
            self.assertEqual(self.lengths(edit), lengths)
            self.assertEqual("".join(row[0][0] if row[0] == "kept" else row[1][0] for row in self.rows(edit)), kinds)
            self.assertEqual((edit.kept(), edit.renewed()), (kinds.count("k"), kinds.count("r")))
        self.assertEqual(self.rows(Edit({"a": s}, Clip.part("a", 4, 12))), [("kept", "a", 1), ("kept", "a", 2)])

    def test_made_units_have_32_samples(self):
        s = even(70, 64)
        for many in (1, 31, 32, 33, 63, 64, 65, 70):
            lengths = [32] * (many // 32) + ([many % 32] if many % 32 else [])
            for clip in (Clip.silence(many), Clip.samples([1] * many), Clip.part("a", 0, many).gained(1, 1)):
                edit = Edit({"a": s}, clip)
                self.assertEqual(self.lengths(edit), lengths)
                self.assertEqual(self.rows(edit), [("new", "made")] * len(lengths))

    def test_records_of_new_frames(self):
        values = list(range(40))
        edit = Edit({}, Clip.samples(values))
        first, behind = new_frame(values[:32])
        self.assertEqual(edit.all_records(), [first, ("state", START), new_frame(values[32:])[0]])
        self.assertEqual(edit.all_rows(), [("new", "made"), ("state",), ("new", "made")])
        # Behind this frame the tables are as at the beginning.
        one = new_frame([0])
        self.assertNotEqual(one[1], START)
        self.assertEqual(Edit({}, Clip.silence(1)).all_records(), [one[0]])

    def test_no_state_record_where_the_tables_are_right(self):
        frame, behind = plain_record((2, HARD, 0, 1), [0, 0], START)
        other = Stream([("state", behind), plain_record((1, HARD, 0, 1), [3], behind)[0]])
        edit = Edit({"a": Stream([frame]), "b": other}, Clip.part("a", 0, 2) + Clip.part("b", 0, 1))
        self.assertEqual(edit.all_rows(), [("kept", "a", 0), ("kept", "b", 0)])
        edit = Edit({"a": Stream([frame]), "b": other}, Clip.part("b", 0, 1) + Clip.part("a", 0, 2))
        self.assertEqual(edit.all_rows(), [("state",), ("kept", "b", 0), ("state",), ("kept", "a", 0)])
        self.assertEqual(edit.record(0), ("state", behind))
        self.assertEqual(edit.record(2), ("state", START))

    def test_state_records_of_streams_are_not_taken_over(self):
        s = even(12, states=1)
        self.assertEqual(len(s), 5)
        edit = Edit({"a": s}, whole(s))
        self.assertEqual(edit.all_rows(), [("kept", "a", frame) for frame in range(3)])
        doubled = Stream([("state", START)] * 2 + s.records + [("state", START)])
        self.assertEqual(Edit({"a": doubled}, whole(s)).stream(), edit.stream())

    def test_old_joints_and_rests(self):
        s = even(20, 5, (2, 1))
        # A rest that is as wide as the old joint keeps it, a narrower one does not.
        for start, joint in ((2, (2, 1)), (3, (2, 1))):
            edit = Edit({"a": s}, Clip.part("a", start, 15))
            self.assertEqual(edit.record(0)[2], joint)
            self.assertEqual(self.rows(edit)[:2], [("new", "rest"), ("kept", "a", 1)])
        edit = Edit({"a": s}, Clip.part("a", 4, 15))
        self.assertEqual(edit.record(0)[2], HARD)
        self.assertEqual(self.rows(edit)[:2], [("new", "rest"), ("new", "left")])
        edit = Edit({"a": s}, Clip.part("a", 5, 12))
        self.assertEqual(self.rows(edit), [("new", "left"), ("new", "rest")])
        edit = Edit({"a": s}, Clip.part("a", 0, 11))
        self.assertEqual(self.rows(edit), [("kept", "a", 0), ("new", "joint"), ("new", "rest")])
        # Two rests beside each other keep the old joint, too.
        self.assertEqual(Edit({"a": s}, Clip.part("a", 3, 7)).record(0)[2], (2, 1))
        self.assertEqual(Edit({"a": s}, Clip.part("a", 4, 7)).record(0)[2], HARD)
        self.assertEqual(Edit({"a": s}, Clip.part("a", 3, 6)).record(0)[2], HARD)

    def test_a_chosen_joint_can_be_the_old_one(self):
        sound = integers(3, 20, 9)
        one = encode(sound, [(5, (2, 1), 1, 1), (5, (3, 2), 1, 1), (10, HARD, 1, 1)])
        two = encode(sound, [(10, (3, 2), 0, 1), (4, (1, 1), 2, 1), (6, HARD, 0, 1)])
        edit = Edit({"a": one, "b": two}, Clip.part("a", 0, 10) + Clip.part("b", 10, 20))
        self.assertEqual(self.rows(edit), [("kept", "a", 0), ("kept", "a", 1), ("kept", "b", 1), ("kept", "b", 2)])
        self.assertEqual(edit.stream().sound(), sound)
        edit = Edit({"a": one, "b": two}, Clip.part("b", 0, 10) + Clip.part("a", 10, 20))
        self.assertEqual(self.rows(edit), [("kept", "b", 0), ("kept", "a", 2)])
        # Across the ends of a repeat the joints are hard.
        edit = Edit({"a": one, "b": two}, Clip.part("b", 0, 10) * 2 + Clip.part("a", 10, 20))
        self.assertEqual(self.rows(edit), [("new", "joint")] * 2 + [("new", "left")])

    def test_a_frame_can_stay_with_another_left_joint(self):
        sound = [0] * 12
        s = encode(sound, even_plan(12, 4, (2, 3), 0, 1))
        # Folded zeros are zeros, so only the right joints have a meaning.
        edit = Edit({"a": s}, Clip.part("a", 4, 12))
        self.assertEqual(self.rows(edit), [("kept", "a", 1), ("kept", "a", 2)])
        edit = Edit({"a": s}, Clip.part("a", 4, 8) + Clip.part("a", 0, 4))
        self.assertEqual(self.rows(edit), [("kept", "a", 1), ("new", "joint")])
        self.assertEqual([record[2] for record in edit.all_records() if record[0] == "frame"], [(2, 3), HARD])

    def test_the_first_choice_is_taken(self):
        # Between made units every choice is as good; the first one is the hard joint.
        edit = Edit({}, Clip.samples([1, 2, 3, 4]) + Clip.samples([5, 6, 7]) + Clip.silence(3))
        self.assertEqual([record[2] for record in edit.all_records() if record[0] == "frame"], [HARD] * 3)

    def test_long_silences(self):
        s = even(8)
        for count in (1, 32, 33, 64, 65, 96, 97, 128, 129, 200, 1000):
            clip = Clip.part("a", 0, 4) + Clip.silence(count) + Clip.part("a", 4, 8)
            plain = PlainEdit({"a": s}, clip.pieces())
            plain.joints = [joint or HARD for joint in plain.joints]
            plain.finish()
            edit = Edit({"a": s}, clip)
            self.assertEqual(edit.all_rows(), plain.rows)
            self.assertEqual(edit.all_records(), plain.records)
            self.assertEqual(edit.stream().sound(), plain.samples)
        edit = Edit({"a": s}, Clip.part("a", 0, 4) + (Clip.silence(GREAT) * 32).cut(25, 32 * GREAT))
        self.assertEqual((edit.kept(), edit.renewed(), edit.length), (1, GREAT, 32 * GREAT - 21))
        self.assertEqual(edit.total, 1 + 2 * GREAT)
        self.assertEqual([edit.record(index)[:2] for index in (2 * GREAT, 2 * GREAT - 1, GREAT, GREAT + 1)],
                         [("frame", 7), ("state", START), ("frame", 32), ("state", START)])


    def test_silences_beside_old_joints(self):
        # Where the old sound is silent, too, the frame beside a silence stays with its old joint.
        sound, plan = [0] * 8 + integers(5, 8, 9), [(8, (4, 1), 1, 1), (8, HARD, 1, 1)]
        streams = {"a": encode(sound, plan), "b": encode(sound[::-1], plan)}
        for count in (4, 31, 32, 36, 64, 68, 96, 100, 128, 32 * 10 ** 20, 32 * 10 ** 20 + 4):
            edit = Edit(streams, Clip.silence(count) + Clip.part("a", 8, 16))
            self.assertEqual((edit.kept(), edit.row(edit.total - 1)), (1, ("kept", "a", 1)))
            self.assertEqual(edit.record(edit.total - 3)[2], (4, 1))
        for count in (3, 33, 67, 97):
            self.assertEqual(Edit(streams, Clip.silence(count) + Clip.part("a", 8, 16)).kept(), 0)
        for count in (4, 31, 32, 33, 64, 65, 96, 97, 32 * 10 ** 20, 32 * 10 ** 20 + 1):
            edit = Edit(streams, Clip.part("b", 0, 8) + Clip.silence(count))
            self.assertEqual((edit.kept(), edit.row(0), edit.record(0)[2]), (1, ("kept", "b", 0), (4, 1)))
        self.assertEqual(Edit(streams, Clip.part("b", 0, 8) + Clip.silence(3)).kept(), 0)


class LongTest(Case):

    def test_repeats_against_few_copies(self):
        tried = 0
        for seed in range(160):
            source = sequence(seed)
            streams = any_streams(source)
            sounds = {name: stream.sound() for name, stream in streams.items()}
            inner = any_clip(source, sounds, 2, 2)[0]
            before, behind = any_clip(source, sounds, 1, 2)[0], any_clip(source, sounds, 1, 2)[0]
            # Copies of a silence are no repeat.
            if inner.length and inner.pieces()[0][0] != "silence":
                tried += 1
                self.check_great(streams, before, inner, behind)
        self.assertGreater(tried, 80)

    def check_great(self, streams, before, inner, behind):
        edits = {n: Edit(streams, before + inner * n + behind) for n in (4, 5, GREAT)}
        few, great = edits[5], edits[GREAT]
        period = few.total - edits[4].total
        self.assertEqual(great.total, few.total + (GREAT - 5) * period)
        self.assertEqual(great.length, few.length + (GREAT - 5) * inner.length)
        self.assertEqual(great.kept(), few.kept() + (GREAT - 5) * (few.kept() - edits[4].kept()))
        self.assertEqual(great.renewed(), few.renewed() + (GREAT - 5) * (few.renewed() - edits[4].renewed()))
        limit = Edit(streams, before + inner * 3).total
        for index in range(few.total):
            # The copies that are left out stand behind the third one.
            far = index if index < limit else index + (GREAT - 5) * period
            self.assertEqual(great.record(far), few.record(index))
            self.assertEqual(great.row(far), few.row(index))
        for place in range(few.length):
            within = place < before.length + 3 * inner.length
            self.assertEqual(great.sample(place if within else place + (GREAT - 5) * inner.length), few.sample(place))

    def test_places_in_the_middle(self):
        s = even(12, 5, (2, 1))
        inner = Clip.part("a", 0, 12) + Clip.silence(3)
        one, two = Edit({"a": s}, inner * 2), Edit({"a": s}, inner * 3)
        period = two.total - one.total
        great = Edit({"a": s}, inner * GREAT)
        for copy in (1, 2, 10 ** 15, GREAT // 2, GREAT - 2):
            for index in range(period):
                self.assertEqual(great.record(one.total - period + copy * period + index - period),
                                 one.record(one.total - period + index))
                self.assertEqual(great.row(one.total - period + copy * period + index - period),
                                 one.row(one.total - period + index))
            for place in range(15):
                self.assertEqual(great.sample(copy * 15 + place), one.sample(place))

    def test_copies_that_need_no_state_records(self):
        # Behind this frame the tables are those before it, so only the first copy of it may need a state record.
        tables = ((0, 8), (2, 1))
        record, behind = plain_record((8, HARD, 0, 1), [0] * 8, tables)
        self.assertEqual(behind, tables)
        s = Stream([("state", tables), record])
        made, state, kept = ("new", "made"), ("state",), ("kept", "a", 0)
        part, one = Clip.part("a", 0, 8), Clip.samples([1])
        edit = Edit({"a": s}, one + part * GREAT + one)
        self.assertEqual((edit.total, edit.kept()), (GREAT + 4, GREAT))
        for index, row in ((0, made), (1, state), (2, kept), (3, kept), (GREAT // 2, kept), (GREAT, kept),
                           (GREAT + 1, kept), (GREAT + 2, state), (GREAT + 3, made)):
            self.assertEqual(edit.row(index), row)
        self.assertEqual([edit.record(index) for index in (1, 2, GREAT + 2)],
                         [("state", tables), record, ("state", START)])
        edit = Edit({"a": s}, part * GREAT)
        self.assertEqual((edit.total, edit.row(0), edit.row(1), edit.row(GREAT)), (GREAT + 1, state, kept, kept))
        edit = Edit({"a": s}, (one + part * 3) * GREAT)
        self.assertEqual(edit.total, 6 * GREAT - 1)
        rows = [made, state, kept, kept, kept, state]
        for first in (0, 6, 6 * 10 ** 29, 6 * GREAT - 12):
            self.assertEqual([edit.row(first + at) for at in range(6)], rows)

    def test_repeats_in_repeats(self):
        s = even(12, 5, (2, 1), states=2)
        parts = [Clip.part("a", 0, 10), Clip.silence(2), Clip.samples([4, -4]), Clip.part("a", 3, 12)]
        counts = [10 ** 9, 10 ** 12, 7, 10 ** 12]
        clip = EMPTY
        for part, n in zip(parts, counts):
            clip = (clip + part) * n
        edit = Edit({"a": s}, clip)
        self.assertEqual(edit.length, clip.length)
        sounds = {"a": s.sound()}
        source = sequence(4)
        for trial in range(200):
            place = 0
            for word in range(6):
                place = place * 2 ** 24 + next(source)
            place = place % edit.length
            self.assertEqual(edit.sample(place), clip.sample(place, sounds))
        self.assertEqual(edit.sample(edit.length - 1), s.sound()[11])
        # The records are those of few copies, counted over again.
        self.check_totals(s, parts, counts, edit)

    def check_totals(self, s, parts, counts, edit):
        """Counting frames and state records level by level, from their tables."""
        inner, first, last, frames = 0, None, None, 0
        for part, n in zip(parts, counts):
            plain = PlainEdit({"a": s}, part.pieces()).finish()
            states = [record[1] for record in plain.records if record[0] == "state"]
            needed = states[0] if plain.records[0][0] == "state" else START
            own = len(plain.records) - (plain.records[0][0] == "state")
            behind = Stream(plain.records)
            behind = behind.tables_after(behind.frames - 1)
            if first is None:
                inner, first = own, needed
            else:
                inner += own + (last != needed)
            last = behind
            frames += plain.kept + plain.renewed
            inner, frames = n * inner + (n - 1) * (last != first), n * frames
        self.assertEqual(edit.total, inner + (first != START))
        self.assertEqual(edit.kept() + edit.renewed(), frames)

    def test_repeats_as_deep_as_they_can_be(self):
        start = time.perf_counter()
        s = even(20, 3, (1, 1))
        clip = whole(s)
        for level in range(99):
            clip = (clip + Clip.silence(1)) * 2
        edit = Edit({"a": s}, clip)
        self.assertEqual(edit.length, clip.length)
        self.assertEqual(edit.kept(), 7 * 2 ** 99)
        self.assertEqual(edit.renewed(), 2 ** 100 - 2)
        # Each silence but the first one of its kind needs a state record, and so does each first frame but one.
        self.assertEqual(edit.row(edit.total - 1), ("new", "made"))
        self.assertEqual([edit.row(index) for index in range(8)],
                         [("kept", "a", frame) for frame in range(7)] + [("state",)])
        for place in (0, 19, edit.length - 1, edit.length // 2, edit.length // 3, edit.length - 100 - 20):
            self.assertEqual(edit.sample(place), clip.sample(place, {"a": s.sound()}))
        for index in (0, edit.total // 2, edit.total // 3, edit.total - 1):
            self.assertIn(edit.record(index)[0], ("frame", "state"))
            self.assertEqual(edit.record(index)[0] == "state", edit.row(index) == ("state",))
        self.assertLess(time.perf_counter() - start, 10)

    def test_records_of_deep_repeats_in_order(self):
        s = even(6, 3, (1, 1))
        clip = whole(s)
        for level in range(5):
            clip = (clip + Clip.silence(1)) * 2 + Clip.part("a", 0, 3) * 3
        edit = Edit({"a": s}, clip)
        plain = PlainEdit({"a": s}, clip.pieces())
        plain.finish()
        self.assertEqual(edit.all_records(), plain.records)
        self.assertEqual(edit.all_rows(), plain.rows)


class ErrorsTest(Case):

    def test_names_that_are_not_there(self):
        s = even(8)
        clip = Clip.part("c", 0, 99) + (Clip.part("b", 0, 8) + Clip.silence(1)) * 2 + Clip.part("a", 0, 99)
        self.fails(UnknownName, "name", "a", Edit, {}, clip)
        self.fails(UnknownName, "name", "b", Edit, {"a": s}, clip)
        self.fails(UnknownName, "name", "c", Edit, {"a": s, "b": s, "d": s}, clip)
        for value in NO_INTEGERS + (0, s.records, s.sound(), Clip.silence(1), Stream):
            self.fails(UnknownName, "name", "b", Edit, {"a": s, "b": value, "c": value}, clip)
        # Names that the clip does not need may stand for anything.
        self.assertEqual(Edit({"x": None, "a": s}, whole(s)).kept(), 2)

    def test_parts_behind_the_end(self):
        s = even(8)
        clip = Clip.part("a", 0, 8) + (Clip.part("a", 8, 9).gained(1, 2) + Clip.part("a", 3, 12)) * 2
        self.fails(InvalidPlace, "value", 9, Edit, {"a": s}, clip)
        self.fails(InvalidPlace, "value", 9, Edit, {"a": s}, Clip.part("a", 0, 9))
        self.fails(InvalidPlace, "value", GREAT, Edit, {"a": s}, Clip.part("a", 0, GREAT))
        self.fails(InvalidPlace, "value", 12, Edit, {"a": s}, Clip.part("a", 3, 12) + Clip.part("a", 3, 10))
        self.fails(UnknownName, "name", "b", Edit, {"a": s}, Clip.part("a", 3, 12) + Clip.part("b", 3, 10))
        self.assertEqual(Edit({"a": s}, Clip.part("a", 7, 8)).renewed(), 1)

    def test_too_many_samples(self):
        s = even(10000, 64)
        most = Clip.part("a", 0, 10000) * GREAT + (Clip.part("a", 0, 9990).gained(1, 2) + Clip.samples([1] * 10)) * 7
        self.assertEqual(Edit({"a": s}, most + Clip.silence(GREAT)).length, most.length + GREAT)
        self.fails(LimitExceeded, "limit", 20000, Edit, {"a": s}, most + Clip.samples([1]))
        self.fails(LimitExceeded, "limit", 20000, Edit, {"a": s}, (Clip.part("a", 0, 1) + Clip.silence(1)) * 2 + most)
        self.fails(InvalidPlace, "value", 10001, Edit, {"a": s}, most + Clip.part("a", 0, 10001))
        self.fails(UnknownName, "name", "b", Edit, {"a": s}, most + Clip.part("b", 0, 10001))

    def test_too_many_records(self):
        s = even(5, 1)
        for n in (1000, 1001):
            # From the second copy on, a state record stands before each copy.
            edit = Edit({"a": s}, Clip.part("a", 0, 4) * n)
            self.assertEqual(edit.total, 5 * n - 1)
            if n == 1000:
                self.assertEqual((len(edit.all_records()), len(edit.all_rows()), len(edit.stream())), (4999,) * 3)
            else:
                for call in (edit.all_records, edit.all_rows, edit.stream):
                    self.fails(LimitExceeded, "limit", 5000, call)
        sound = [0] * 5000
        edit = Edit({"a": encode(sound, even_plan(5000, 1, HARD, 0, 1))}, Clip.part("a", 0, 5000))
        self.assertEqual((edit.total, edit.stream().sound()), (5000, sound))
        edit = Edit({"a": encode(sound + [0], even_plan(5001, 1, HARD, 0, 1))}, Clip.part("a", 0, 5001))
        self.fails(LimitExceeded, "limit", 5000, edit.all_records)
        self.assertEqual(edit.row(5000), ("kept", "a", 5000))

    def test_places(self):
        edit = Edit({"a": even(8)}, Clip.part("a", 1, 7))
        for call, many in ((edit.record, edit.total), (edit.row, edit.total), (edit.sample, 6)):
            for value in NO_INTEGERS + (-1, many, LARGE):
                self.fails(InvalidPlace, "value", value, call, value)
            call(0), call(many - 1)
        edit = Edit({}, EMPTY)
        self.assertEqual((edit.length, edit.total, edit.kept(), edit.renewed()), (0, 0, 0, 0))
        self.assertEqual((edit.all_records(), edit.all_rows(), edit.stream()), ([], [], Stream([])))
        for call in (edit.record, edit.row, edit.sample):
            self.fails(InvalidPlace, "value", 0, call, 0)

    def test_arguments_are_copied_and_results_are_new(self):
        s = even(8)
        streams = {"a": s}
        edit = Edit(streams=streams, clip=whole(s))
        streams.clear()
        edit.all_records().clear()
        edit.all_rows().append(None)
        self.assertEqual(edit.stream(), s)
        self.assertEqual(edit.all_rows(), [("kept", "a", 0), ("kept", "a", 1)])
        self.assertEqual((edit.record(index=1), edit.row(index=1)), (s.records[1], ("kept", "a", 1)))
        self.assertEqual(edit.sample(place=7), s.sound()[7])
        streams = {"b": s}
        before = copy.copy(streams)
        Edit(streams, whole(s, "b")).stream()
        self.assertEqual(streams, before)


class FunctionsTest(Case):

    def test_joined(self):
        for seed in range(60):
            one, two = (Stream(any_built(seed + many, 5, 9, 3).records) for many in (0, 1000))
            stream = joined(one, two)
            self.assertEqual(stream.sound(), one.sound() + two.sound())
            clip = Clip.part("x", 0, one.length) + Clip.part("y", 0, two.length)
            self.assertEqual(stream, Edit({"x": one, "y": two}, clip).stream())
        self.assertEqual(joined(first=one, second=Stream([])).sound(), one.sound())
        self.assertEqual(joined(one, one).sound(), one.sound() * 2)

    def test_repeated(self):
        for seed in range(60):
            one = Stream(any_built(seed, 5, 9, 3).records)
            for n in (0, 1, 2, 3, 7):
                stream = repeated(one, n)
                self.assertEqual(stream.sound(), one.sound() * n)
                self.assertEqual(stream, Edit({"x": one}, Clip.part("x", 0, one.length) * n).stream())
        self.assertEqual(repeated(stream=Stream([]), n=GREAT), Stream([]))
        s = even(8)
        for n in NO_INTEGERS + (-1, GREAT + 1):
            self.fails(InvalidNumber, "value", n, repeated, s, n)
        self.fails(LimitExceeded, "limit", 5000, repeated, s, GREAT)
        big = even(20001, 64)
        self.fails(LimitExceeded, "limit", 20000, repeated, big, 1)
        self.assertEqual(repeated(big, 0), Stream([]))
        self.fails(LimitExceeded, "limit", 20000, joined, big, big)

    def test_stretch(self):
        for seed in range(40):
            one = Stream(any_built(seed, 5, 6, 3).records)
            for start in range(one.length + 1):
                for end in range(start, one.length + 1):
                    stream = stretch(one, start, end)
                    self.assertEqual(stream.sound(), one.sound()[start:end])
            self.assertEqual(stream, Edit({"x": one}, Clip.part("x", start, end)).stream())
        self.assertEqual(stretch(stream=one, start=1, end=2).sound(), one.sound()[1:2])
        for place in NO_INTEGERS + (-1, one.length + 1):
            self.fails(InvalidPlace, "value", place, stretch, one, place, None)
            self.fails(InvalidPlace, "value", place, stretch, one, 0, place)
        self.fails(InvalidPlace, "value", 1, stretch, one, 2, 1)
        big = even(20001, 64)
        self.assertEqual(stretch(big, 1, 20001).sound(), big.sound()[1:])
        self.fails(LimitExceeded, "limit", 20000, stretch, big, 0, 20001)
        self.fails(LimitExceeded, "limit", 5000, stretch, even(6000, 1), 0, 5001)

    def test_streams_of_edits_keep_the_guarantees(self):
        for streams, clip, plain in plain_edits(range(9000, 9060)):
            stream = Edit(streams, clip).stream()
            self.assertEqual(stream, Stream(stream.records))
            self.assertEqual(stretch(stream, 0, stream.length).sound(), plain.samples)
            self.assertEqual(repeated(stream, 2).sound(), plain.samples * 2)


if __name__ == "__main__":
    unittest.main()
