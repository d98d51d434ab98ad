"""The parts of the program together."""

import unittest

from framejoins.budgets import edit_delay, frame_sizes, least_delay
from framejoins.clips import Clip
from framejoins.console import Console
from framejoins.damage import concealed, touched
from framejoins.edits import Edit
from framejoins.errors import InvalidPlace
from framejoins.files import parse_stream, recovered_records, stream_text
from framejoins.papers import check_edit
from framejoins.scripts import clip_of, parse_script, script_text
from framejoins.seeking import index_of, needed_records, read_part
from framejoins.streams import Stream
from framejoins.studio import Studio
from helpers import Case, Fetch, sequence
from plain_edits import any_streams, plain_edits


def any_script(source, streams):
    """A script of the streams that keeps within their sounds."""
    names = sorted(streams)
    lines, known = [], {name: streams[name].length for name in names}
    for number in range(3):
        one = sorted(known)[next(source) % len(known)]
        two = sorted(known)[next(source) % len(known)]
        length = known[one]
        i = next(source) % (length + 1)
        j = i + next(source) % (length - i + 1)
        k = min(known[two], 6)
        text, many = [
            (f"{one}[{i}:{j}] + {two}[:{k}]", j - i + k),
            (f"insert({one}, {i}, samples(1, -2))", length + 2),
            (f"replace({one}, {i}:{j}, {two}[:{k}])", length - j + i + k),
            (f"cut({one}, {i}:{j}) + silence(2)", length - j + i + 2),
            (f"gain({one}[:{i}], 2/3) + {one}[{i}:]", length),
            (f"({one}[{i}:] + silence(1)) * 2", 2 * (length - i + 1))][next(source) % 6]
        name = "xyz"[number]
        lines.append(f"{name} = {text}")
        known[name] = many
    return "; ".join(lines) + "; return z"


class WholeTest(Case):

    def test_edits_written_read_stored_asked_and_checked(self):
        for seed in range(120):
            source = sequence(seed)
            streams = any_streams(source)
            script = any_script(source, streams)
            clip = clip_of(script, {name: stream.length for name, stream in streams.items()})
            self.assertEqual(clip_of(script_text(parse_script(script)),
                                     {name: stream.length for name, stream in streams.items()}), clip)
            edit = Edit(streams, clip)
            stream = edit.stream()
            sounds = {name: source.sound() for name, source in streams.items()}
            sound = [clip.sample(place, sounds) for place in range(clip.length)]
            self.assertEqual(stream.sound(), sound)
            self.assertIs(check_edit(streams, clip, edit.all_records(), edit.all_rows()), True)
            self.check_file(stream, sound)
            self.check_studio(streams, script, edit, stream)
            self.check_parts(stream, sound)

    def check_file(self, stream, sound):
        text = stream_text(stream)
        again = parse_stream(text)
        self.assertEqual((again, again.sound()), (stream, sound))
        # Of a file that is cut off in its last line, all but the last record are left.
        if len(stream):
            records = recovered_records(text[:-1])
            self.assertEqual(records, stream.records[:-1])
            index = index_of(stream)
            lost = [len(stream) - 1]
            rest = concealed(index, Fetch(records), lost)
            for start, end in [(0, 0)] + touched(index, lost):
                rest[start:end] = sound[start:end]
            self.assertEqual(rest, sound)

    def check_studio(self, streams, script, edit, stream):
        studio = Studio()
        studio.perform([("put", name, parse_stream(stream_text(streams[name]))) for name in streams])
        console = Console(studio)
        self.assertEqual(console.execute("edit new " + script), f"{edit.kept()} {edit.renewed()}")
        self.assertEqual(studio.stream("new"), stream)
        self.assertEqual(console.execute("length new"), str(edit.length))
        self.assertEqual(console.execute("frames new"), str(edit.kept() + edit.renewed()))
        self.assertEqual(console.execute("file new").replace("; ", "\n"), stream_text(stream))
        samples = console.execute(f"samples new 0 {edit.length}")
        self.assertEqual(samples, " ".join(str(value) for value in stream.sound()) or "-")
        for rate in (0, 9, 50):
            delay = edit_delay(edit, rate)
            self.assertEqual(delay, least_delay(frame_sizes(stream), rate))
            self.assertEqual(console.execute(f"delay new {rate}"), str(delay))
        console.execute("undo")
        self.assertEqual(studio.names(), sorted(streams))

    def check_parts(self, stream, sound):
        index = index_of(stream)
        length = len(sound)
        for start, end in ((0, length), (length // 3, length // 2), (length // 2, length // 2 + (length > 0))):
            fetch = Fetch(stream.records)
            self.assertEqual(read_part(index, fetch, start, end), sound[start:end])
            self.assertEqual(fetch.calls, needed_records(index, start, end))

    def test_edits_of_edits(self):
        for streams, clip, plain in plain_edits(range(60)):
            stream = Edit(streams, clip).stream()
            other = Clip.part("n", 0, stream.length)
            edit = Edit({"n": stream}, other * 2)
            # What is one clip as a whole stays as it is, only the state records before the copies may differ.
            self.assertEqual((edit.kept(), edit.renewed()), (2 * stream.frames, 0))
            self.assertEqual(edit.stream().sound(), plain.samples * 2)
            if stream.length:
                self.assertEqual(Edit({"n": stream}, other).stream(), stream)
                self.fails(InvalidPlace, "value", stream.length + 1, Edit, {"n": stream},
                           Clip.part("n", 0, stream.length + 1))

    def test_equal_calls_return_equal_results(self):
        for streams, clip, plain in plain_edits(range(60, 90)):
            backwards = {name: streams[name] for name in reversed(list(streams))}
            one, two = Edit(streams, clip), Edit(backwards, clip)
            self.assertEqual(one.all_records(), two.all_records())
            self.assertEqual(one.all_rows(), two.all_rows())
            self.assertEqual(one.stream(), Stream(two.all_records()))


if __name__ == "__main__":
    unittest.main()
