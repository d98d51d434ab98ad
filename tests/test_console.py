import unittest

from framejoins.budgets import frame_sizes, least_delay
from framejoins.clips import Clip
from framejoins.console import Console
from framejoins.encoder import encode, even_plan
from framejoins.errors import (InvalidCommand, InvalidNumber, InvalidPlace, LimitExceeded, NothingToUndo, ScriptError,
                               UnknownName)
from framejoins.files import parse_stream, stream_text
from framejoins.streams import Stream
from framejoins.studio import Studio
from helpers import NO_INTEGERS, Case, integers
from plain import HARD


def desk():
    """A studio with two streams and its console."""
    studio = Studio()
    studio.put("a", encode(integers(1, 10, 9), even_plan(10, 4, (1, 2), 1, 1), states=1))
    studio.put("empty", Stream([]))
    return studio, Console(studio)


class CommandsTest(Case):

    def test_example(self):
        s = encode([1, 2, 3, 4, 5, 6], [(2, (1, 0), 0, 1), (2, (0, 0), 0, 1), (2, (0, 0), 0, 1)])
        studio = Studio()
        studio.put('a', s)
        console = Console(studio)
        self.assertEqual([console.execute('edit b return a + a'), console.execute('samples b 5 8'),
                          console.execute('undo'), studio.names()], ['6 0', '6 1 2', 'ok', ['a']])

    def check(self, console, command, result):
        found = console.execute(command)
        self.assertIs(type(found), str)
        self.assertEqual(found, result, command)

    def test_names(self):
        studio, console = desk()
        self.check(console, "names", "a empty")
        self.check(Console(Studio()), "names", "-")
        studio.put("b", Stream([]))
        self.check(console, "names", "a b empty")

    def test_drop_undo_and_redo(self):
        studio, console = desk()
        self.check(console, "drop a", "ok")
        self.assertEqual(studio.names(), ["empty"])
        self.check(console, "undo", "ok")
        self.check(console, "undo", "ok")
        self.assertEqual(studio.names(), ["a"])
        self.check(console, "redo", "ok")
        self.check(console, "redo", "ok")
        self.assertEqual(studio.names(), ["empty"])
        self.assertEqual(studio.history(), [("put", "a"), ("put", "empty"), ("drop", "a")])

    def test_edits(self):
        studio, console = desk()
        for script, result in (("return a", "3 0"), ("x = a;;return x[:4] + x[4:]; ", "3 0"), (" return a[1:] #;", "2 1"),
                               ("return  a[:8]", "1 1"), ("return silence(0)", "0 0"), ("\n;return a\n", "3 0"),
                               ("b = empty\nreturn b + a", "3 0")):
            self.check(console, "edit b " + script, result)
            self.assertEqual(studio.history()[-1], ("edit", "b", script))
        self.check(console, "edit a return a * 2", "6 0")
        self.assertEqual(studio.stream("a").length, 20)

    def test_numbers_of_a_stream(self):
        studio, console = desk()
        s = studio.stream("a")
        self.check(console, "length a", "10")
        self.check(console, "frames a", "3")
        self.check(console, "size a", str(s.size()))
        for word in ("length", "frames", "size"):
            self.check(console, word + " empty", "0")

    def test_samples(self):
        studio, console = desk()
        sound = studio.stream("a").sound()
        for start in range(11):
            for end in range(start, 11):
                self.check(console, f"samples a {start} {end}", " ".join(map(str, sound[start:end])) or "-")
        self.check(console, "samples empty 0 0", "-")
        for places, value in (("11 5", 11), ("0 11", 11), ("3 2", 2), ("9" * 30 + " 0", 10 ** 30 - 1)):
            self.fails(InvalidPlace, "value", value, console.execute, "samples a " + places)

    def test_delays(self):
        studio, console = desk()
        sizes = frame_sizes(studio.stream("a"))
        for rate in (0, 1, 7, 30, 10 ** 9):
            self.check(console, f"delay a {rate}", str(least_delay(sizes, rate)))
        self.check(console, "delay empty 0", "0")
        for rate in (10 ** 9 + 1, 10 ** 30 - 1):
            self.fails(InvalidNumber, "value", rate, console.execute, f"delay a {rate}")

    def test_files(self):
        studio, console = desk()
        s = studio.stream("a")
        self.check(console, "file a", "; ".join(stream_text(s).split("\n")))
        self.assertEqual(parse_stream(console.execute("file a").replace("; ", "\n")), s)
        self.check(console, "file empty", "")


class WrongCommandsTest(Case):

    def test_words_and_blanks(self):
        studio, console = desk()
        studio.undo()
        for command in ("", " ", "names ", " names", "names a", "Names", "NAMES", "name", "names\n", "\nnames",
                        "drop", "drop ", "drop  a", " drop a", "drop a ", "drop a b", "Drop a", "drop A", "drop a\n",
                        "drop 1", "drop abcdefghi", "drop a1", "drop a;", "undo 1", "undo ", "undo  ", "redo 1",
                        "redo ", "UNDO", "undo;", "length", "length ", "length  a", "length a ", "length a b",
                        "length A", "size", "size a 1", "size  a", "frames", "frames a  ", "frames a b", "samples",
                        "samples a", "samples a 1", "samples a 1 ", "samples a  1 2", "samples a 1  2",
                        "samples a 1 2 ", "samples a 1 2 3", "samples 1 2", "samples a b 2", "samples a 01 2",
                        "samples a 1 02", "samples a 00 2", "samples a -1 2", "samples a +1 2", "samples a 1: 2",
                        "samples a 1_0 2", "samples a 0 " + "1" * 31, "samples a " + "1" * 31 + " 0", "delay",
                        "delay a", "delay a ", "delay a 01", "delay a -1", "delay a 1 2", "delay  a 1", "delay a x",
                        "delay a " + "1" * 31, "delay a 1\n", "file", "file ", "file a ", "file a b", "file A",
                        "edit", "edit ", "edit a", "edit  a return a", "edit A return a", "edit a1 return a",
                        "edit abcdefghi return a", "Edit a return a", " edit a return a", "edit\na return a",
                        "edit a\nreturn a", "edit\ta return a", "put a", "stream a", "history", "clone", "perform",
                        "help", "-", ";", "names;", "names; names", "samples empty 0 00"):
            self.fails(InvalidCommand, "value", command, console.execute, command)
        self.assertEqual(studio.history(), [("put", "a")])

    def test_values_of_all_kinds(self):
        studio, console = desk()
        for value in NO_INTEGERS + (0, b"names", ["names"], ("names",), studio, console, Stream([]), Clip.silence(1)):
            self.fails(InvalidCommand, "value", value, console.execute, value)

    def test_errors_of_the_methods(self):
        studio, console = desk()
        before = studio.clone()
        for command, kind, field, value in (
                ("drop x", UnknownName, "name", "x"), ("length x", UnknownName, "name", "x"),
                ("size x", UnknownName, "name", "x"), ("frames x", UnknownName, "name", "x"),
                ("samples x 0 99", UnknownName, "name", "x"), ("samples a 99 98", InvalidPlace, "value", 99),
                ("delay x 10000000000", UnknownName, "name", "x"), ("file x", UnknownName, "name", "x"),
                ("edit b ", ScriptError, "line", 1), ("edit b  ", ScriptError, "line", 1),
                ("edit b ;\n", ScriptError, "line", 2), ("edit b return", ScriptError, "line", 1),
                ("edit b return x", UnknownName, "name", "x"), ("edit b return b", UnknownName, "name", "b"),
                ("edit b return a[11:]", InvalidPlace, "value", 11),
                ("edit b return gain(a, 1/0)", InvalidNumber, "value", 0),
                ("edit b return a * 9999", LimitExceeded, "limit", 5000), ("redo", NothingToUndo, "count", 1)):
            self.fails(kind, field, value, console.execute, command)
            self.assertEqual(studio, before)
        self.fails(NothingToUndo, "count", 1, Console(Studio()).execute, "undo")
        for number in range(18):
            console.execute("edit " + "bcdfghijklmnopqrstuv"[number] + " return a")
        self.fails(LimitExceeded, "limit", 20, console.execute, "edit z return a")


class StudioTest(Case):

    def test_a_console_and_its_studio_go_on_together(self):
        studio = Studio()
        console, other = Console(studio=studio), Console(studio)
        self.assertEqual(len(console), 0)
        studio.put("a", encode([1, 2, 3], [(3, HARD, 0, 1)]))
        self.assertEqual((len(console), console.execute(command="names"), len(other)), (1, "a", 1))
        console.execute("edit b return a[1:]")
        self.assertEqual((studio.names(), len(other), studio.stream("b").sound()), (["a", "b"], 2, [2, 3]))
        other.execute("drop a")
        self.assertEqual((console.execute("names"), len(console), len(studio)), ("b", 1, 1))
        studio.undo(3)
        self.assertEqual((console.execute("names"), len(console)), ("-", 0))
        self.assertEqual(console.execute("redo"), "ok")
        self.assertEqual(studio.names(), ["a"])
        # A clone goes on by itself.
        apart = Console(studio.clone())
        apart.execute("drop a")
        self.assertEqual((len(apart), len(console)), (0, 1))


if __name__ == "__main__":
    unittest.main()
