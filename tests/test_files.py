import copy
import unittest

from framejoins.clips import Clip
from framejoins.edits import Edit
from framejoins.encoder import encode, even_plan
from framejoins.errors import InvalidStream, ParseError
from framejoins.files import parse_stream, recovered_records, stream_text
from framejoins.streams import Stream
from helpers import NO_INTEGERS, Case, integers
from plain import HARD, START, any_built, plain_record
from plain_edits import plain_edits

SIGNS = "0123456789abcdefghijklmnopqrstuvwxyz -"
OTHERS = "\n#ABZ.,;_+*/()[]:=~!\"'$%&<>?@\\^`{|}"


def checked(words, check=1):
    """The check number behind the words of a line."""
    for sign in words:
        check = (check * 41 + SIGNS.index(sign) + 1) % 1000003
    return check


def text_of(lines):
    """A text with right check numbers behind the words of each line."""
    check, rows = 1, []
    for words in lines:
        check = checked(words, check)
        rows.append(f"{words} #{check}")
    return "\n".join(rows)


def plain_words(record):
    if record[0] == "state":
        return "state %d %d %d %d" % (record[1][0] + record[1][1])
    return "frame %d %d %d %d %d %d %s" % (record[1], *record[2], *record[3:6], record[6] or "-")


class WritingTest(Case):

    def test_example(self):
        s = encode([4, 6], [(2, (0, 0), 1, 1)])
        self.assertEqual([stream_text(s).split(' #')[0], parse_stream(stream_text(s)) == s,
                          recovered_records(stream_text(s)[:-1])],
                         ['frame 2 0 0 1 1 1274 1111100101', True, []])

    def test_streams_are_written_and_read_back(self):
        for seed in range(150):
            stream = Stream(any_built(seed, size=(1, 40, 10 ** 12)[seed % 3]).records)
            text = stream_text(stream)
            self.assertEqual(text, text_of([plain_words(record) for record in stream.records]))
            self.assertEqual(parse_stream(text), stream)
            self.assertEqual(recovered_records(text), stream.records)

    def test_edits_are_written_and_read_back(self):
        for streams, clip, plain in plain_edits(range(80)):
            stream = Edit(streams, clip).stream()
            self.assertEqual(parse_stream(stream_text(stream)).sound(), plain.samples)

    def test_by_hand(self):
        self.assertEqual(stream_text(Stream([])), "")
        self.assertEqual(parse_stream(""), Stream([]))
        self.assertEqual(recovered_records(""), [])
        tables = ((0, 1), (10 ** 3999, 15))
        text = stream_text(Stream([("state", tables)]))
        self.assertEqual(text.split(" #")[0], "state 0 1 1" + "0" * 3999 + " 15")
        self.assertEqual(parse_stream(text).records, [("state", tables)])
        # A record without bits denotes no frame of a stream, but it is a record.
        self.assertEqual(recovered_records(text_of(["frame 1 0 0 0 1 1 -"])), [("frame", 1, HARD, 0, 1, 1, "")])
        self.fails(InvalidStream, "index", 0, parse_stream, text_of(["frame 1 0 0 0 1 1 -"]))

    def test_the_check_number_goes_on_from_line_to_line(self):
        state = ("state", START)
        lines = stream_text(Stream([state] * 3)).split("\n")
        self.assertEqual([line.split(" #")[0] for line in lines], ["state 2 1 2 1"] * 3)
        self.assertEqual(len(set(lines)), 3)
        self.assertEqual(lines[0], f"state 2 1 2 1 #{checked('state 2 1 2 1')}")
        for order in ((1, 0, 2), (1,), (2,)):
            self.assertEqual(recovered_records("\n".join(lines[at] for at in order)), [])
        self.assertEqual(recovered_records("\n".join([lines[0], lines[2], lines[1]])), [state])
        self.assertEqual(recovered_records("\n".join([lines[0], lines[0]])), [state])


class DamageTest(Case):

    def streams(self):
        for seed in (3, 8, 21):
            stream = Stream(any_built(seed, most=5, limit=4, size=3).records)
            if len(stream) > 1:
                yield stream, stream_text(stream)
        s = encode(integers(2, 9, 20), even_plan(9, 3, (1, 2), 1, 1), states=1)
        yield s, stream_text(s)

    def test_texts_that_are_cut_off_at_any_place(self):
        for stream, text in self.streams():
            ends = [0]
            for line in text.split("\n"):
                ends.append(ends[-1] + len(line) + 1)
            for place in range(len(text) + 1):
                whole = sum(end - 1 <= place for end in ends[1:])
                self.assertEqual(recovered_records(text[:place]), stream.records[:whole])
                if place not in [end - 1 for end in ends]:
                    # Behind a line feed, too, there is one more line, which is empty.
                    self.fails(ParseError, "line", whole + 1, parse_stream, text[:place] or "\n")

    def test_texts_with_one_character_replaced(self):
        for number, (stream, text) in enumerate(self.streams()):
            line = 0
            for place, old in enumerate(text):
                # All signs for one text; for the others some of them, and always those with a meaning.
                signs = SIGNS + OTHERS if number == 3 else (SIGNS + OTHERS)[place % 30::30] + "\n #-0"
                for sign in signs:
                    if sign != old:
                        damaged = text[:place] + sign + text[place + 1:]
                        self.assertEqual(recovered_records(damaged), stream.records[:line])
                        self.fails(ParseError, "line", line + 1, parse_stream, damaged)
                line += old == "\n"

    def test_texts_with_a_character_more_or_less(self):
        for stream, text in self.streams():
            line = 0
            for place, old in enumerate(text):
                # A line feed less puts two lines together; a check number that ends with equal digits hides nothing.
                self.assertEqual(recovered_records(text[:place] + text[place + 1:])[:line], stream.records[:line])
                self.assertNotEqual(recovered_records(text[:place] + text[place + 1:]), stream.records)
                line += old == "\n"

    def test_line_feeds_at_the_end_and_alone(self):
        for stream, text in self.streams():
            for many in (1, 2, 3):
                self.assertEqual(recovered_records(text + "\n" * many), stream.records)
                self.fails(ParseError, "line", len(stream) + 1, parse_stream, text + "\n" * many)
                self.assertEqual(recovered_records("\n" * many + text), [])
                self.fails(ParseError, "line", 1, parse_stream, "\n" * many + text)
        for many in (1, 2, 50):
            self.assertEqual(recovered_records("\n" * many), [])
            self.fails(ParseError, "line", 1, parse_stream, "\n" * many)


class LinesTest(Case):
    GOOD = ("state 2 1 2 1", "state 0 1 0 15", "state 99999999999999999999 8 1 1", "frame 1 0 0 0 1 0 -",
            "frame 64 8 3 5 64 9972 0", "frame 10 1 0 3 7 12 0101110", "frame 64 8 0 0 1 0 " + "01" * 3000)

    def test_lines_that_are_records(self):
        for words in self.GOOD:
            record = recovered_records(text_of([words]))
            self.assertEqual([plain_words(own) for own in record], [words])
        self.assertEqual([plain_words(own) for own in recovered_records(text_of(self.GOOD))], list(self.GOOD))

    def test_lines_with_right_check_numbers_that_are_no_records(self):
        for words in ("", " ", "state", "frame", "state 2 1 2", "state 2 1 2 1 1", "state 2 1 2 1 ", " state 2 1 2 1",
                      "state  2 1 2 1", "state 2 1  2 1", "state 02 1 2 1", "state 2 01 2 1", "state 2 1 00 1",
                      "state 2 1 2 0", "state 2 0 2 1", "state 2 16 2 1", "state -2 1 2 1", "state - 1 2 1",
                      "state a 1 2 1", "state 2 1 2 1-", "states 2 1 2 1", "stat 2 1 2 1", "frame 2 1 2 1",
                      "state 1 0 0 0 1 0 -", "2 1 2 1", "state2 1 2 1", "-", "- -", "frame 0 0 0 0 1 0 -",
                      "frame 65 0 0 0 1 0 -", "frame 1 9 0 0 1 0 -", "frame 1 0 1 0 1 0 -", "frame 1 1 4 0 1 0 -",
                      "frame 1 0 0 6 1 0 -", "frame 1 0 0 0 0 0 -", "frame 1 0 0 0 65 0 -", "frame 1 0 0 0 1 9973 -",
                      "frame 1 0 0 0 1 0", "frame 1 0 0 0 1 0 ", "frame 1 0 0 0 1 0  ", "frame 1 0 0 0 1 0 --",
                      "frame 1 0 0 0 1 0 -0", "frame 1 0 0 0 1 0 0-", "frame 1 0 0 0 1 0 2", "frame 1 0 0 0 1 0 0 1",
                      "frame 1 0 0 0 1 0 012", "frame 1 0 0 0 1 0 - -", "frame 01 0 0 0 1 0 -", "frame 1 00 0 0 1 0 -",
                      "frame 1 0 0 0 1 00 -", "frame - 0 0 0 1 0 -", "frame 1 0 0 0 1 - -", "frame 1 0 0 0 1 -",
                      "frame 1 0 0 0 1 a 0", "frame 1 0 0 0 1 0 x", "frame -1 0 0 0 1 0 -", "frame 1 0 0 0 1 -1 -"):
            self.assertEqual(recovered_records(text_of([words])), [], words)
            self.fails(ParseError, "line", 1, parse_stream, text_of([words]))
            text = text_of(["state 2 1 2 1", words, "state 2 1 2 1"])
            self.assertEqual(recovered_records(text), [("state", START)])
            self.fails(ParseError, "line", 2, parse_stream, text)

    def test_ends_of_lines(self):
        words = "state 2 1 2 1"
        check = checked(words)
        self.assertEqual(recovered_records(f"{words} #{check}"), [("state", START)])
        for line in (words, f"{words} #", f"{words} # {check}", f"{words}  #{check}", f"{words}#{check}",
                     f"{words} {check}", f"{words} #{check} ", f" {words} #{check}", f"{words} #0{check}",
                     f"{words} #+{check}", f"{words} #-{check}", f"{words} ##{check}", f"{words} # #{check}",
                     f"{words} #{check}#", f"{words} #{check + 1}", f"{words} #{check - 1}", f"{words} #{check + 1000003}",
                     f"{words} #{check}.0", f"{words} #{check} #{check}", f"{words} #{check}\t", f"#{check}",
                     f" #{check}", f"{words.upper()} #{check}", f"State 2 1 2 1 #{check}", f"{words} #{check:07d}"):
            self.assertEqual(recovered_records(line), [], line)
            self.fails(ParseError, "line", 1, parse_stream, line)

    def test_a_check_number_of_zero(self):
        words = "state 1023916 1 2 1"
        self.assertEqual(checked(words), 0)
        self.assertEqual(recovered_records(f"{words} #0"), [("state", ((1023916, 1), (2, 1)))])
        self.assertEqual(recovered_records(f"{words} #"), [])
        self.assertEqual(recovered_records(f"{words} #00"), [])

    def test_long_numbers(self):
        for digits, good in ((3999, True), (4000, True), (4001, False), (4300, False), (4301, False), (20000, False)):
            for number in ("9" * digits, "1" + "0" * (digits - 1)):
                for words in (f"state {number} 1 2 1", f"state 2 1 {number} 1"):
                    self.assertEqual(len(recovered_records(text_of([words]))), int(good))
                words = f"frame 1 0 0 0 1 {number} -"
                self.assertEqual(recovered_records(text_of([words])), [])
        self.assertEqual(recovered_records(f"state 2 1 2 1 #{'1' * 5000}"), [])
        # Bits are no number.
        words = "frame 64 0 0 0 1 1 " + "1" * 20000
        self.assertEqual(recovered_records(text_of([words]))[0][6], "1" * 20000)

    def test_values_that_are_no_strings(self):
        for value in NO_INTEGERS + (0, b"", ["state"], Stream([])):
            if not isinstance(value, str):
                self.fails(ParseError, "line", None, parse_stream, value)
                self.fails(ParseError, "line", None, recovered_records, value)

    def test_records_that_make_no_stream(self):
        state = "state 2 1 2 1"
        self.fails(InvalidStream, "index", 1, parse_stream, text_of([state, "frame 1 0 0 0 1 1 0", state]))
        record = plain_record((2, (1, 0), 0, 1), [1, 2], START)[0]
        self.fails(InvalidStream, "index", 0, parse_stream, text_of([plain_words(record), state]))
        self.assertEqual(recovered_records(text_of([plain_words(record), state])), [record, ("state", START)])
        # A line that is not valid comes before records that make no stream.
        text = text_of(["frame 1 0 0 0 1 1 0", state, "state"])
        self.fails(ParseError, "line", 3, parse_stream, text)

    def test_arguments_by_name_and_unchanged(self):
        stream = encode([1, 2, 3], [(3, HARD, 0, 1)])
        before = copy.deepcopy(stream.records)
        text = stream_text(stream=stream)
        recovered_records(text=text).clear()
        self.assertEqual(recovered_records(text), before)
        self.assertEqual(parse_stream(text=text), stream)


if __name__ == "__main__":
    unittest.main()
