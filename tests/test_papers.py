import copy
import unittest

from framejoins.clips import Clip
from framejoins.edits import Edit
from framejoins.encoder import encode, even_plan
from framejoins.errors import InvalidPlace, LimitExceeded, UnknownName
from framejoins.papers import check_edit
from framejoins.streams import Stream
from helpers import NO_INTEGERS, Case, integers, sequence
from plain import HARD, START, plain_record
from plain_edits import REASONS, any_edit, any_small_stream, plain_edits

EVERYTHING = NO_INTEGERS + (0, 1, "kept", ("kept",), ("new",), ("state",), ["state"], [("state",)], (("state",),),
                            ("new", "made"), ("new", None), ("state", None), ("kept", "a"), ("kept", "a", None),
                            ("kept", None, 0), ("kept", "a", True), ("kept", ["a"], 0), ["kept", "a", 0],
                            ["new", "made"], ("new", ["made"]), ("new", "made", 0), ("new", ""), ("NEW", "made"),
                            Stream([]), Clip.silence(1), object(), int)


def spelled_pieces(pieces):
    found = []
    for piece in pieces:
        found += spelled_pieces(piece[2]) * piece[1] if piece[0] == "repeat" else [piece]
    return found


def sources_of_samples(pieces):
    """For each sample of a clip: the number of its piece, and its name and place if that is a part without gains."""
    found = []
    for number, piece in enumerate(spelled_pieces(pieces)):
        if piece[0] == "part":
            found += [(number, None if piece[4] else (piece[1], at)) for at in range(piece[2], piece[3])]
        else:
            found += [(number, None)] * (piece[1] if piece[0] == "silence" else len(piece[1]))
    return found


def true_rows(streams, clip, stream):
    """The set of all true rows of each record, word by word as the document tells them."""
    sources = sources_of_samples(clip.pieces())
    frame, rows = 0, []
    for record in stream.records:
        if record[0] == "state":
            rows.append({("state",)})
            continue
        at, start, length, left, right = stream.block(frame)
        values, frame = stream.contents(frame), frame + 1
        own = sources[start:start + length]
        old = None
        if len({number for number, place in own}) == 1 and own[0][1]:
            name, place = own[0][1]
            for other in range(streams[name].frames):
                if streams[name].block(other)[1:3] == (place, length):
                    old = (name, other)
        if not any(place for number, place in own):
            rows.append({("new", "made")})
        elif old is None:
            rows.append({("new", "rest")})
        else:
            rows.append(rows_of_old(streams[old[0]], old, record, values, left, right))
    return rows


def rows_of_old(stream, old, record, values, left, right):
    at, start, length, old_left, old_right = stream.block(old[1])
    before = stream.contents(old[1])
    rows = set()
    if record == stream.records[at] and values == before:
        rows.add(("kept",) + old)
    wide = max(left[0], old_left[0])
    if any(values[i] != before[i] for i in range(wide)):
        rows.add(("new", "left"))
    if right != old_right:
        rows.add(("new", "joint"))
    if any(values[length - 1 - i] != before[length - 1 - i] for i in range(right[0])):
        rows.add(("new", "right"))
    return rows


def all_rows(streams):
    """All rows that could be meant."""
    rows = [("state",)] + [("new", reason) for reason in REASONS]
    return rows + [("kept", name, frame) for name in streams for frame in range(streams[name].frames + 1)]


def replaced(values, at, value):
    return values[:at] + [value] + values[at + 1:]


def coded_anew(source, streams, clip):
    """A stream of the samples of a clip with other frames, of which some begin where those of the edit do."""
    sound = Edit(streams, clip).stream().sound()
    if next(source) % 2:
        return any_small_stream(source, sound)
    lengths = [record[1] for record in Edit(streams, clip).all_records() if record[0] == "frame"]
    plan, left = [], 0
    for at, length in enumerate(lengths):
        behind = lengths[at + 1] if at + 1 < len(lengths) else 0
        width = next(source) % (min(length - left, behind, 8) + 1) if next(source) % 2 else 0
        plan.append((length, (width, next(source) % 4 if width else 0), next(source) % 3, 1))
        left = width
    return encode(sound, plan, states=next(source) % 3)


class TrueTest(Case):

    def test_records_and_rows_of_edits(self):
        for streams, clip, plain in plain_edits(range(600)):
            edit = Edit(streams, clip)
            records, rows = edit.all_records(), edit.all_rows()
            self.assertIs(check_edit(streams, clip, records, rows), True)
            self.assertIs(check_edit(streams, clip, tuple(records), rows), True)
            self.assertIs(check_edit(streams, clip, records, tuple(rows)), False)
            self.assertIs(check_edit(streams, clip, records, rows + [("state",)]), False)
            if rows:
                self.assertIs(check_edit(streams, clip, records, rows[:-1]), False)
                self.assertIs(check_edit(streams, clip, records[:-1], rows[:-1]), rows[-1] == ("state",))
            # One more state record behind the last frame changes nothing.
            more = records + [("state", START)]
            self.assertIs(check_edit(streams, clip, more, rows + [("state",)]), True)
            self.assertIs(check_edit(streams, clip, more, rows), False)

    def test_each_row_changed(self):
        for streams, clip, plain in plain_edits(range(600, 660)):
            stream = Edit(streams, clip).stream()
            self.check_rows(streams, clip, stream)

    def test_other_streams_of_the_same_samples(self):
        seen = set()
        for seed in range(140):
            streams, clip, pieces = any_edit(seed)
            if clip.length <= 60:
                stream = coded_anew(sequence(seed), streams, clip)
                seen.update(self.check_rows(streams, clip, stream))
        self.assertLessEqual({("new", reason) for reason in REASONS} | {("state",)}, seen)

    def check_rows(self, streams, clip, stream):
        """Each row, by itself, is taken exactly if it is a true one."""
        truth = true_rows(streams, clip, stream)
        rows = [min(true, default=None) for true in truth]
        # A frame for which there is no true row: its record differs from the old one only by its bits or levels.
        hopeless = [at for at, row in enumerate(rows) if row is None]
        for at in range(len(rows)):
            if not hopeless or hopeless == [at]:
                for row in all_rows(streams):
                    self.assertIs(check_edit(streams, clip, stream.records, replaced(rows, at, row)), row in truth[at])
        if not hopeless:
            self.assertIs(check_edit(streams, clip, stream.records, rows), True)
        return set().union(*truth)


class HandTest(Case):

    def setUp(self):
        self.sound = integers(1, 12, 9)
        self.plan = [(4, (1, 1), 1, 1), (4, (2, 0), 0, 1), (4, HARD, 1, 1)]
        self.s = encode(self.sound, self.plan)
        self.streams = {"a": self.s, "b": self.s}
        self.clip = Clip.part("a", 0, 12)
        self.rows = [("kept", "a", frame) for frame in range(3)]

    def check(self, records, rows, clip=None):
        return check_edit(self.streams, self.clip if clip is None else clip, records, rows)

    def test_the_stream_itself(self):
        self.assertIs(self.check(self.s.records, self.rows), True)
        for at in range(3):
            for row in EVERYTHING + (("kept", "b", at), ("kept", "a", at + 1), ("kept", "a", at - 1), ("new", "left"),
                                     ("new", "joint"), ("new", "right"), ("new", "rest"), ("kept", "a", at, 0)):
                self.assertIs(self.check(self.s.records, replaced(self.rows, at, row)), False, row)

    def test_truth_values_are_no_frames(self):
        rows = [("kept", "a", False), ("kept", "a", True), ("kept", "a", 2)]
        self.assertIs(self.check(self.s.records, rows), False)
        self.assertIs(self.check(self.s.records, replaced(self.rows, 0, rows[0])), False)
        self.assertIs(self.check(self.s.records, replaced(self.rows, 1, rows[1])), False)

    def test_any_values(self):
        for value in EVERYTHING:
            self.assertIs(self.check(value, self.rows), False)
            self.assertIs(self.check(self.s.records, value), False)
            self.assertIs(self.check(value, value), False)
            for at in range(3):
                self.assertIs(self.check(replaced(self.s.records, at, value), self.rows), False)
        self.assertIs(self.check(self.s, self.rows), False)

    def test_records_changed(self):
        records = self.s.records
        for at in range(3):
            other = replaced(records, at, records[at][:6] + (records[at][6] + "0",))
            self.assertIs(self.check(other, self.rows), False)
            other = replaced(records, at, records[at][:5] + ((records[at][5] + 1) % 9973, records[at][6]))
            self.assertIs(self.check(other, self.rows), False)
            self.assertIs(self.check(records[:at] + records[at + 1:], self.rows[:at] + self.rows[at + 1:]), False)
        self.assertIs(self.check(records[::-1], self.rows[::-1]), False)
        # Another sound, coded and told as it should be.
        other = encode([self.sound[0] + 1] + self.sound[1:], self.plan)
        self.assertIs(self.check(other.records, [("new", "left")] + self.rows[1:]), False)
        self.assertIs(self.check(other.records, self.rows), False)

    def test_a_frame_that_is_coded_in_another_way_is_not_kept(self):
        # Frame 0 with another number of levels has the same values, but not the same record, and no reason is true.
        other = encode(self.sound, [self.plan[0][:2] + (0, 1)] + self.plan[1:])
        self.assertEqual(other.contents(0), self.s.contents(0))
        for row in all_rows(self.streams):
            self.assertIs(self.check(other.records, replaced(self.rows, 0, row)), False)
        # The same numbers, but other bits, since they are read with other tables.
        tables = ((9, 1), (9, 1))
        record = plain_record(self.plan[0], self.s.numbers(0), tables)[0]
        state = ("state", self.s.tables_after(0))
        records = [("state", tables), record, state] + self.s.records[1:]
        for row in all_rows(self.streams):
            self.assertIs(self.check(records, [("state",), row, ("state",)] + self.rows[1:]), False)
        # More state records than are needed are no fault.
        records = [("state", START), self.s.records[0], state, state] + self.s.records[1:]
        self.assertIs(self.check(records, [("state",), self.rows[0], ("state",), ("state",)] + self.rows[1:]), True)
        self.assertIs(self.check(records, self.rows), False)

    def test_equal_bits_with_other_values_are_not_kept(self):
        # With these tables the same bits are those of other numbers; the samples of the clip are those of the edit.
        first, behind = plain_record((2, HARD, 0, 1), [1, -1], START)
        s = Stream([first])
        clip = Clip.part("a", 0, 2)
        self.assertIs(check_edit({"a": s}, clip, [("state", START), first], [("state",), ("kept", "a", 0)]), True)
        self.assertIs(check_edit({"a": s}, clip, [("state", START), first], [("state",), ("new", "left")]), False)

    def test_an_equal_record_with_other_values_is_not_kept(self):
        # With other tables the same bits, with the same mark, are those of other numbers.
        layout, tables, others = (5, HARD, 0, 1), ((33, 1), (2, 1)), ((9, 1), (2, 1))
        values, worth = [5, -3, -8, -9, 0], [1, 4, -7, 16, 8]
        record = plain_record(layout, values, tables)[0]
        self.assertEqual(record, plain_record(layout, worth, others)[0])
        # What stands before the joint is such that the samples behind it are the same all the same.
        before = [2 * (new - old) + (2 - new) // 4 for old, new in zip(values, worth)][::-1]
        stream = Stream([plain_record((5, (5, 0), 0, 1), before, START)[0], ("state", others), record])
        self.assertEqual(stream.sound()[5:], values)
        clip = Clip.samples(stream.sound()[:5]) + Clip.part("a", 0, 5)
        streams = {"a": Stream([("state", tables), record])}
        for row, good in ((("kept", "a", 0), False), (("new", "left"), True), (("new", "joint"), False),
                          (("new", "right"), False), (("new", "rest"), False), (("new", "made"), False)):
            rows = [("new", "made"), ("state",), row]
            self.assertIs(check_edit(streams, clip, stream.records, rows), good, row)

    def test_each_reason_by_itself(self):
        # All joints changed: the frame in the middle differs at both ends, and in its right joint.
        other = encode(self.sound, [(4, (2, 2), 1, 1), (4, (2, 3), 1, 1), (4, HARD, 1, 1)])
        rows = [("new", "joint"), ("new", "joint"), ("new", "left")]
        for reason in ("left", "joint", "right"):
            self.assertIs(self.check(other.records, replaced(rows, 1, ("new", reason))), True)
        for at, reason, good in ((0, "left", False), (0, "right", True), (2, "joint", False), (2, "right", False),
                                 (1, "rest", False), (1, "made", False)):
            self.assertIs(self.check(other.records, replaced(rows, at, ("new", reason))), good)

    def test_made_and_rest(self):
        clip = Clip.silence(4) + Clip.part("a", 0, 4).gained(1, 1) + Clip.part("a", 0, 4) + Clip.samples([1, 2])
        sound = [0] * 4 + self.sound[:4] * 2 + [1, 2]

        def told(lengths, rows):
            stream = encode(sound, [(length, HARD, 0, 1) for length in lengths])
            return self.check(stream.records, [("new", row) for row in rows], clip)

        for word in ("kept", "state", "NEW", "made", "", None, 1, True):
            records = encode([0] * 4, [(4, HARD, 0, 1)]).records
            self.assertIs(self.check(records, [(word, "made")], Clip.silence(4)), False)
            self.assertIs(self.check(records, [("new", word)], Clip.silence(4)), word == "made")
        self.assertIs(told([4, 4, 4, 2], ["made", "made", "joint", "made"]), True)
        self.assertIs(told([6, 2, 6], ["made", "made", "rest"]), True)
        self.assertIs(told([8, 3, 3], ["made", "rest", "rest"]), True)
        self.assertIs(told([7, 2, 3, 2], ["made", "rest", "rest", "made"]), True)
        for lengths, rows in (([4, 4, 4, 2], ["made", "made", "rest", "made"]), ([14], ["made"]),
                              ([4, 4, 4, 2], ["rest", "made", "joint", "made"]), ([6, 2, 6], ["made", "made", "made"]),
                              ([4, 4, 4, 2], ["made", "joint", "joint", "made"]), ([6, 2, 6], ["rest", "made", "rest"]),
                              ([8, 3, 3], ["made", "joint", "rest"])):
            self.assertIs(told(lengths, rows), False)

    def test_copies_of_a_repeat_are_pieces_of_their_own(self):
        s = encode([1, 2, 3, 4], [(2, HARD, 0, 1), (2, HARD, 0, 1)])
        for clip, good in ((Clip.part("a", 0, 2) + Clip.part("a", 2, 4), True),
                           ((Clip.part("a", 0, 1) + Clip.part("a", 1, 2)) * 2, True)):
            edit = Edit({"a": s}, clip)
            self.assertIs(check_edit({"a": s}, clip, edit.all_records(), edit.all_rows()), True)
        # Two copies of the first sample, and the frame with the two first samples of another stream.
        s = encode([5, 5], [(2, HARD, 0, 1)])
        clip = Clip.part("a", 0, 1) * 2
        self.assertIs(check_edit({"a": s}, clip, s.records, [("kept", "a", 0)]), False)
        self.assertIs(check_edit({"a": s}, clip, s.records, [("new", "rest")]), True)
        clip = Clip.part("a", 0, 2)
        self.assertIs(check_edit({"a": s}, clip, s.records, [("kept", "a", 0)]), True)
        self.assertIs(check_edit({"a": s}, clip, s.records, [("new", "rest")]), False)
        # The same samples, but not those of a part without gains.
        for clip in (Clip.samples([5, 5]), Clip.part("a", 0, 2).gained(1, 1)):
            self.assertIs(check_edit({"a": s}, clip, s.records, [("kept", "a", 0)]), False)
            self.assertIs(check_edit({"a": s}, clip, s.records, [("new", "made")]), True)

    def test_equal_samples_of_another_frame_are_not_kept(self):
        record = plain_record((2, HARD, 0, 1), [0, 0], START)[0]
        s = Stream([record, ("state", START), record])
        edit = Edit({"a": s, "b": s}, Clip.part("a", 2, 4))
        self.assertEqual(edit.all_records(), [record])
        for name, frame, good in (("a", 1, True), ("a", 0, False), ("b", 1, False), ("b", 0, False)):
            self.assertIs(check_edit({"a": s, "b": s}, Clip.part("a", 2, 4), [record], [("kept", name, frame)]), good)

    def test_empty_clips(self):
        for clip in (Clip.silence(0), Clip.part("x", 3, 3)):
            self.assertIs(check_edit({}, clip, [], []), True)
            self.assertIs(check_edit({}, clip, (), []), True)
            self.assertIs(check_edit({}, clip, [], ()), False)
            self.assertIs(check_edit({}, clip, [("state", START)], [("state",)]), True)
            self.assertIs(check_edit({}, clip, [("state", START)], []), False)
            self.assertIs(check_edit({}, clip, self.s.records, self.rows), False)

    def test_arguments_by_name_and_unchanged(self):
        arguments = {"streams": self.streams, "clip": self.clip, "records": self.s.records, "rows": self.rows}
        before = {name: copy.copy(value) for name, value in arguments.items()}
        self.assertIs(check_edit(**arguments), True)
        self.assertEqual(arguments, before)


class ErrorsTest(Case):

    def test_errors_of_edits(self):
        s = encode([1] * 8, even_plan(8, 4, HARD, 0, 1))
        clip = Clip.part("b", 0, 9) + Clip.part("a", 0, 9)
        for records, rows in (([], []), (None, None), (s.records, [("kept", "a", 0)])):
            self.fails(UnknownName, "name", "a", check_edit, {}, clip, records, rows)
            self.fails(UnknownName, "name", "b", check_edit, {"a": s, "b": None}, clip, records, rows)
            self.fails(InvalidPlace, "value", 9, check_edit, {"a": s, "b": s}, clip, records, rows)
            big = Clip.samples([1] * 20000)
            self.fails(LimitExceeded, "limit", 20000, check_edit, {}, big + Clip.samples([1]), records, rows)
            self.fails(InvalidPlace, "value", 9, check_edit, {"a": s}, big + Clip.part("a", 0, 9), records, rows)

    def test_clips_that_are_too_long(self):
        s = encode([1] * 8, even_plan(8, 4, HARD, 0, 1))
        for clip in (Clip.part("a", 0, 8) * 2501, Clip.silence(20001), Clip.silence(10 ** 30),
                     Clip.part("a", 0, 8) * 10 ** 30):
            self.fails(LimitExceeded, "limit", 20000, check_edit, {"a": s}, clip, None, None)
        self.fails(UnknownName, "name", "a", check_edit, {}, Clip.part("a", 0, 8) * 2501, None, None)
        self.fails(InvalidPlace, "value", 9, check_edit, {"a": s}, Clip.part("a", 0, 9) * 2501, None, None)
        for clip in (Clip.part("a", 0, 8) * 2500, Clip.silence(20000)):
            edit = Edit({"a": s}, clip)
            if edit.total <= 5000:
                records, rows = edit.all_records(), edit.all_rows()
            else:
                records = [edit.record(index) for index in range(edit.total)]
                rows = [edit.row(index) for index in range(edit.total)]
            self.assertIs(check_edit({"a": s}, clip, records, rows), True)
            self.assertIs(check_edit({"a": s}, clip, records, rows[:-1] + [("state",)]), False)


if __name__ == "__main__":
    unittest.main()
