import copy
import unittest

from framejoins.errors import InvalidPlace, InvalidStream
from framejoins.streams import Stream, is_record, record_size
from helpers import LARGE, NO_INTEGERS, Case
from plain import HARD, START, Built, any_built, plain_coarse, plain_mark, plain_record, plainly_written

FRAME = ("frame", 2, (1, 3), 1, 64, 1274, "1111100101")
STATE = ("state", START)

# For each field of a frame record: values at its limits, and values that are none of its values.
FIELDS = {
    1: ((1, 2, 63, 64), (0, -1, 65, LARGE, -LARGE)),
    2: ((HARD, (1, 0), (8, 0), (8, 3), (1, 3)), ((0, 1), (9, 0), (-1, 0), (1, 4), (1, -1), [0, 0], (0,), (0, 0, 0),
                                                 (True, 0), (1, False), (None, 0), ("1", 0), 0, 1, -1)),
    3: ((0, 1, 5), (-1, 6, LARGE, -LARGE)),
    4: ((1, 2, 63, 64), (0, -1, 65, LARGE, -LARGE)),
    5: ((0, 1, 9972), (-1, 9973, 9974, LARGE, -LARGE)),
    6: (("", "0", "1", "01" * 60, "0" * 20000), ("2", " ", "0 ", " 1", "0\n", "\n1", "0 1", "0x1", "021", "-1", "+1",
                                                 "0b1", "1_1", "1.0", "a", "O", "l", 0, 1, 10)),
}
NO_RECORDS = NO_INTEGERS + (0, 1, "state", "frame", ("state",), ("frame",), ((),), {"state": START}, b"state", object(),
                            int, STATE + STATE, FRAME + FRAME, (STATE,), (FRAME,), [FRAME], ("", START))


def replaced(values, at, value):
    return values[:at] + (value,) + values[at + 1:]


class RecordsTest(Case):

    def test_records(self):
        self.assertIs(is_record(STATE), True)
        self.assertIs(is_record(FRAME), True)
        self.assertIs(is_record(value=STATE), True)
        for at, (good, wrong) in FIELDS.items():
            for value in good:
                self.assertIs(is_record(replaced(FRAME, at, value)), True, value)

    def test_a_record_need_not_be_one_of_a_stream(self):
        self.assertIs(is_record(("frame", 1, (8, 0), 5, 1, 0, "1")), True)

    def test_each_field_beyond_its_limits_and_of_other_kinds(self):
        for at, (good, wrong) in FIELDS.items():
            kinds = NO_INTEGERS if at != 6 else tuple(kind for kind in NO_INTEGERS if not isinstance(kind, str))
            for value in wrong + kinds + (good, (FRAME,)):
                self.assertIs(is_record(replaced(FRAME, at, value)), False, (at, value))

    def test_fields_left_out_and_doubled(self):
        for record in (FRAME, STATE):
            for at in range(len(record)):
                self.assertIs(is_record(record[:at] + record[at + 1:]), False, (record, at))
                self.assertIs(is_record(record[:at] + record[at:at + 1] + record[at:]), False, (record, at))
            self.assertIs(is_record(list(record)), False)
            self.assertIs(is_record(dict(enumerate(record))), False)
            self.assertIs(is_record(record + (None,)), False)

    def test_words(self):
        for word in NO_INTEGERS + ("State", "states", "stat", " state", "frame", "frames", "", b"state", 0):
            self.assertIs(is_record((word, START)), False, word)
        for word in NO_INTEGERS + ("Frame", "frames", "fram", " frame", "state", "", b"frame", 0):
            self.assertIs(is_record(replaced(FRAME, 0, word)), False, word)

    def test_tables_of_state_records(self):
        for tables in (((0, 1), (0, 1)), ((LARGE, 15), (10 ** 3999, 8)), ((5, 3), (0, 15))):
            self.assertIs(is_record(("state", tables)), True, tables)
        for tables in NO_INTEGERS + (0, (2, 1), [(2, 1), (2, 1)], ([2, 1], (2, 1)), ((2, 1), [2, 1]), ((2, 1),),
                                     ((2, 1),) * 3, ((2, 0), (2, 1)), ((2, 1), (2, 16)), ((-1, 1), (2, 1)),
                                     ((2, True), (2, 1)), ((2, 1), (False, 1)), ((2, 1), (2, None))):
            self.assertIs(is_record(("state", tables)), False, tables)

    def test_no_records(self):
        for value in NO_RECORDS + (Stream([]), Stream([STATE]), (Stream([]), START)):
            self.assertIs(is_record(value), False, value)

    def test_sizes(self):
        self.assertEqual(record_size(STATE), 80)
        self.assertEqual(record_size(("state", ((LARGE, 1), (0, 15)))), 80)
        self.assertEqual(record_size(FRAME), 50)
        self.assertEqual(record_size(record=replaced(FRAME, 6, "")), 40)
        for many in (1, 2, 7, 1000):
            self.assertEqual(record_size(replaced(FRAME, 6, "1" * many)), 40 + many)


class ExampleTest(Case):

    def test_example(self):
        from framejoins.encoder import encode
        s = encode([4, 6], [(2, (0, 0), 1, 1)])
        self.assertEqual([s.records, s.sound(), s.size(), s.numbers(0)],
                         [[('frame', 2, (0, 0), 1, 1, 1274, '1111100101')], [4, 6], 50, [5, -2]])

    def test_by_hand(self):
        # The values 10, 32, 16, 40 are 10, 20, 30, 40, folded at a joint of the width 1 and the shape 2.
        first, tables = plain_record((2, (1, 2), 0, 1), [10, 32], START)
        second, behind = plain_record((2, HARD, 0, 2), [8, 20], ((0, 1), (3, 2)))
        stream = Stream([first, ("state", ((0, 1), (3, 2))), second])
        self.assertEqual(stream.sound(), [10, 20, 30, 40])
        self.assertEqual([stream.contents(0), stream.contents(1)], [[10, 32], [16, 40]])
        self.assertEqual([stream.numbers(0), stream.numbers(1)], [[10, 32], [8, 20]])
        self.assertEqual([stream.block(0), stream.block(1)], [(0, 0, 2, (0, 0), (1, 2)), (2, 2, 2, (1, 2), (0, 0))])
        self.assertEqual([stream.tables_before(0), stream.tables_after(0)], [START, tables])
        self.assertEqual([stream.tables_before(1), stream.tables_after(1)], [((0, 1), (3, 2)), behind])
        self.assertEqual([tables, behind], [((86, 3), (2, 1)), ((56, 3), (3, 2))])
        self.assertEqual([stream.length, stream.frames, len(stream)], [4, 2, 3])


class StreamsTest(Case):

    def check(self, built):
        for records in (list(built.records), tuple(built.records)):
            stream = Stream(records)
            self.assertEqual(stream.records, built.records)
            self.assertEqual((stream.length, stream.frames), (built.length, len(built.blocks)))
            self.assertEqual(stream.sound(), built.sound)
            self.assertEqual(len(stream), len(built.records))
            self.assertEqual(repr(stream), f"Stream({built.records!r})")
            self.assertEqual(stream.size(), sum(80 if record[0] == "state" else 40 + len(record[6])
                                                for record in built.records))
            for frame in range(len(built.blocks)):
                self.assertEqual(stream.block(frame), built.blocks[frame])
                self.assertEqual(stream.numbers(frame), built.numbers[frame])
                self.assertEqual(stream.contents(frame), built.contents[frame])
                self.assertEqual(stream.tables_before(frame), built.before[frame])
                self.assertEqual(stream.tables_after(frame), built.after[frame])

    def test_streams_with_state_records(self):
        for seed in range(150):
            self.check(any_built(seed))
        for seed in range(20):
            self.check(any_built(seed, size=LARGE))
            self.check(any_built(seed, most=12, limit=3, size=3))

    def test_joints_of_all_widths_and_shapes(self):
        for width in range(9):
            for shape in range(4 if width else 1):
                length = max(1, width)
                layouts = [(length, (width, shape), 1, 1), (length, HARD, 0, 3)]
                values = [list(range(7, 7 + length)), list(range(-5 * length, 0, 5))]
                self.check(Built(layouts, values, [[], [], []]))

    def test_joints_that_fill_their_frames(self):
        layouts = [(8, (8, 1), 5, 1), (16, (8, 3), 4, 7), (9, (1, 0), 0, 1), (1, HARD, 3, 64), (64, HARD, 5, 2)]
        numbers = [[(at * at - 30) * (-1) ** at for at in range(layout[0])] for layout in layouts]
        self.check(Built(layouts, numbers, [[] for layout in range(6)]))

    def test_all_levels_and_steps(self):
        for step in range(1, 65):
            numbers = [[3, -step, 0, 7, 70 - step], [1, -1]]
            self.check(Built([(5, (2, 2), step % 6, step), (2, HARD, 5, 65 - step)], numbers, [[], [], []]))

    def test_without_frames(self):
        for states in ([], [START], [((0, 15), (7, 2)), START]):
            built = Built([], [], [states])
            self.check(built)
            self.assertEqual(Stream(built.records).sound(), [])
            self.assertEqual((Stream(built.records).length, Stream(built.records).frames), (0, 0))
        self.assertEqual(Stream([]), Stream(()))
        self.assertEqual((repr(Stream(())), len(Stream([])), Stream([]).size()), ("Stream([])", 0, 0))

    def test_by_name(self):
        stream = Stream(records=any_built(3).records)
        self.assertEqual(stream.block(frame=0), stream.block(0))
        self.assertEqual(stream.numbers(frame=0), stream.numbers(0))
        self.assertEqual(stream.contents(frame=0), stream.contents(0))
        self.assertEqual(stream.tables_before(frame=0), stream.tables_before(0))
        self.assertEqual(stream.tables_after(frame=0), stream.tables_after(0))

    def test_kinds_of_results(self):
        stream = Stream(any_built(3).records)
        self.assertIs(type(stream.records), list)
        self.assertIs(type(stream.sound()), list)
        self.assertIs(type(stream.block(0)), tuple)
        self.assertIs(type(stream.numbers(0)), list)
        self.assertIs(type(stream.contents(0)), list)
        self.assertIs(type(stream.tables_before(0)), tuple)
        self.assertIs(type(stream.tables_after(0)), tuple)


class PlacesTest(Case):

    def test_frames_that_there_are_not(self):
        for built in (any_built(3), any_built(5), Built([], [], [[]]), Built([], [], [[START]])):
            stream = Stream(built.records)
            wrong = NO_INTEGERS + (-1, -2, stream.frames, stream.frames + 1, len(stream) + 1, LARGE, -LARGE)
            for frame in wrong:
                for call in (stream.block, stream.numbers, stream.contents, stream.tables_before, stream.tables_after):
                    self.fails(InvalidPlace, "value", frame, call, frame)
            self.assertEqual(stream.records, built.records)


class EqualityTest(Case):

    def test_equality(self):
        for seed in range(12):
            records = any_built(seed).records
            self.assertTrue(Stream(records) == Stream(tuple(records)))
            self.assertFalse(Stream(records) != Stream(records))
            changed = records + [STATE]
            self.assertFalse(Stream(records) == Stream(changed))
            self.assertTrue(Stream(records) != Stream(changed))

    def test_the_same_sound_in_other_records(self):
        plain = Built([(2, HARD, 0, 1)], [[4, 6]], [[], []])
        stepped = Built([(2, HARD, 0, 2)], [[2, 3]], [[], []])
        self.assertEqual(Stream(plain.records).sound(), Stream(stepped.records).sound())
        self.assertFalse(Stream(plain.records) == Stream(stepped.records))

    def test_other_values(self):
        records = any_built(3).records
        stream = Stream(records)
        others = (records, tuple(records), repr(stream), len(stream), 0, object(), Stream, stream.sound())
        for value in NO_INTEGERS + others:
            self.assertIs(stream == value, False)
            self.assertIs(value == stream, False)
            self.assertIs(stream != value, True)
            self.assertIs(Stream([]) == value, False)


class CopiesTest(Case):

    def test_changing_the_argument(self):
        records = any_built(3).records
        stream, before = Stream(records), list(records)
        sound = stream.sound()
        records.clear()
        self.assertEqual((stream.records, stream.sound(), len(stream)), (before, sound, len(before)))
        self.assertEqual(repr(stream), f"Stream({before!r})")

    def test_changing_results(self):
        stream = Stream(any_built(3).records)
        other = Stream(stream.records)
        for call in (lambda: stream.records, stream.sound, lambda: stream.numbers(0), lambda: stream.contents(0)):
            before = list(call())
            self.assertIsNot(call(), call())
            call().append(None)
            call()[0] = None
            call().clear()
            self.assertEqual(call(), before)
        self.assertEqual(stream, other)
        self.assertEqual(stream.sound(), other.sound())

    def test_the_argument_is_not_changed(self):
        records = any_built(4).records
        before = copy.deepcopy(records)
        Stream(records).sound()
        self.assertEqual(records, before)

    def test_properties_cannot_be_assigned(self):
        stream = Stream(any_built(3).records)
        for name in ("records", "length", "frames"):
            with self.assertRaises(AttributeError):
                setattr(stream, name, [])


class WrongStreamsTest(Case):

    def wrong(self, index, records):
        for kind in (list, tuple):
            self.fails(InvalidStream, "index", index, Stream, kind(records))

    def test_no_list(self):
        for value in (None, True, 0, 1, "", "state", b"", {}, {0: STATE}, set(), {STATE}, range(0), object(),
                      Stream([]), Stream([STATE])):
            self.fails(InvalidStream, "index", None, Stream, value)

    def test_items_that_are_no_records(self):
        for seed in (3, 5, 8):
            records = any_built(seed).records
            for at in range(len(records) + 1):
                for value in NO_RECORDS + (list(FRAME), replaced(FRAME, 4, True), ("state", [START])):
                    self.wrong(at, records[:at] + [value] + records[at:])

    def test_the_first_item_that_is_no_record_comes_first(self):
        wide = plain_record((1, (2, 0), 0, 1), [5], START)[0]
        wrong_bits = replaced(plain_record((1, HARD, 0, 1), [5], START)[0], 6, "")
        soft_end = plain_record((1, (1, 0), 0, 1), [5], START)[0]
        for record in (wide, wrong_bits, soft_end):
            self.wrong(1, [record, None])
            self.wrong(3, [record, STATE, record, None, 5])
            self.wrong(2, [STATE, record, FRAME[1:]])

    def test_joints_that_are_too_wide(self):
        for length, left, right in ((1, 1, 1), (3, 2, 2), (3, 4, 0), (8, 8, 1), (8, 1, 8), (15, 8, 8), (1, 0, 2),
                                    (1, 8, 8)):
            before, tables = plain_record((8, (left, 0), 0, 1), [7] * 8, START)
            own, tables = plain_record((length, (right, 0), 0, 1), [7] * length, tables)
            behind, tables = plain_record((8, HARD, 0, 1), [7] * 8, tables)
            self.wrong(1, [before, own, behind])
            self.wrong(3, [STATE, plain_record((8, (left, 0), 0, 1), [7] * 8, START)[0], STATE,
                           plain_record((length, (right, 0), 0, 1), [7] * length, START)[0]])
        self.wrong(0, [plain_record((1, (2, 0), 0, 1), [5], START)[0]])

    def test_a_joint_fits_exactly(self):
        for length, left, right in ((1, 1, 0), (1, 0, 1), (4, 2, 2), (9, 8, 1), (9, 1, 8), (16, 8, 8)):
            layouts = [(8, (left, 0), 0, 1), (length, (right, 0), 0, 1), (8, HARD, 0, 1)]
            layouts = [(own, joint if joint[0] else HARD, 0, 1) for own, joint, levels, step in layouts]
            Stream(Built(layouts, [[3] * layout[0] for layout in layouts], [[]] * 4).records)

    def test_bits(self):
        for seed in range(12):
            built = any_built(seed, limit=9)
            for record, start, length, left, right in built.blocks:
                bits = built.records[record][6]
                others = [bits + "0", bits + "1", "0" + bits, "1" + bits, bits[1:], bits[:-1], "", "1" * len(bits)]
                for changed in others:
                    records = list(built.records)
                    records[record] = replaced(records[record], 6, changed)
                    self.wrong(record, records)

    def test_bits_that_other_tables_gave(self):
        zeros = ((0, 1), (0, 1))
        for layout in ((3, HARD, 0, 1), (3, HARD, 1, 1)):
            record = plain_record(layout, [0, 0, 0], zeros)[0]
            self.assertNotEqual(record, plain_record(layout, [0, 0, 0], START)[0])
            self.wrong(0, [record])
            self.wrong(1, [("state", START), record])
            Stream([("state", zeros), record])
            self.wrong(2, [("state", zeros), ("state", START), record])
            Stream([("state", START), ("state", zeros), record])
            # Behind these numbers the tables are others than before them.
            record, behind = plain_record(layout, [9, 9, 9], zeros)
            self.wrong(2, [("state", zeros), record, record])
            Stream([("state", zeros), record, ("state", zeros), record])

    def test_coarse_numbers_have_their_own_table(self):
        tables = ((0, 1), (500, 1))
        numbers = [3, 3, 40, 40]
        for levels in (0, 1, 2):
            coarse = plain_coarse(4, levels)
            for many in range(5):
                bits = plainly_written(numbers, many, tables)[0]
                records = [("state", tables), ("frame", 4, HARD, levels, 1, plain_mark(numbers), bits)]
                if many == coarse:
                    self.assertEqual(Stream(records).numbers(0), numbers)
                else:
                    self.wrong(1, records)

    def test_marks(self):
        for seed in range(12):
            built = any_built(seed, limit=9)
            for record, start, length, left, right in built.blocks:
                mark = built.records[record][5]
                for changed in sorted({(mark + 1) % 9973, (mark - 1) % 9973, 0, 1, 9972} - {mark}):
                    records = list(built.records)
                    records[record] = replaced(records[record], 5, changed)
                    self.wrong(record, records)

    def test_the_first_wrong_frame(self):
        record, behind = plain_record((2, HARD, 0, 1), [1, 2], START)
        wrong_mark = replaced(record, 5, (record[5] + 1) % 9973)
        wrong_bits = replaced(record, 6, record[6] + "0")
        wide = plain_record((2, (3, 0), 0, 1), [1, 2], START)[0]
        for first in (wrong_mark, wrong_bits, wide):
            for second in (wrong_mark, wrong_bits, wide):
                self.wrong(0, [first, STATE, second])
                self.wrong(2, [record, STATE, first, STATE, STATE, second])

    def test_last_joint(self):
        for width in range(1, 9):
            for shape in range(4):
                record = plain_record((8, (width, shape), 0, 1), [1] * 8, START)[0]
                self.wrong(0, [record])
                self.wrong(0, [record, STATE])
                self.wrong(2, [STATE, plain_record((4, HARD, 2, 1), [1] * 4, START)[0], plain_record(
                    (8, (width, shape), 0, 1), [1] * 8, plain_record((4, HARD, 2, 1), [1] * 4, START)[1])[0], STATE])
                self.wrong(0, [record, STATE, STATE, STATE])

    def test_a_wrong_frame_comes_before_the_last_joint(self):
        first = plain_record((4, HARD, 0, 1), [1] * 4, START)[0]
        last = plain_record((4, (1, 0), 0, 1), [1] * 4, START)[0]
        self.wrong(0, [replaced(first, 5, (first[5] + 1) % 9973), STATE, last])
        self.wrong(2, [first, STATE, last])

    def test_nothing_is_changed(self):
        records = any_built(3).records + [None]
        before = list(records)
        self.fails(InvalidStream, "index", len(records) - 1, Stream, records)
        self.assertEqual(records, before)


if __name__ == "__main__":
    unittest.main()
