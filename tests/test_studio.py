import copy
import unittest

from framejoins.clips import Clip
from framejoins.edits import Edit
from framejoins.encoder import encode, even_plan
from framejoins.errors import (InvalidNumber, InvalidPlace, InvalidPlan, InvalidStream, LimitExceeded, NothingToUndo,
                               ScriptError, UnknownName)
from framejoins.scripts import clip_of
from framejoins.streams import Stream
from framejoins.studio import Studio
from helpers import LARGE, NO_INTEGERS, Case, integers, sequence
from plain import HARD, any_built

NO_NAMES = (None, True, 1, b"a", ["a"], ("a",), {"a": 1}, {"a"}, "", "A", "abcdefghi", "a b", " a", "a ", "a1", "a\n")


def small(seed, many=8, block=4):
    return encode(integers(seed, many, 9), even_plan(many, block, HARD, 1, 1))


def state_of(studio):
    """All that can be asked of a studio, and how much can be undone and done again."""
    streams = {name: studio.stream(name).records for name in studio.names()}
    other, undone = studio.clone(), 0
    while True:
        try:
            other.redo()
            undone += 1
        except NothingToUndo:
            break
    return streams, studio.names(), studio.history(), len(studio), undone, other.history(), plain_streams(other)


def plain_streams(studio):
    return {name: studio.stream(name).records for name in studio.names()}


def filled(many):
    studio = Studio()
    for at in range(many):
        studio.put("n" + "abcdefghijklmnopqrstuvwxyz"[at], small(at))
    return studio


class PlainStudio:
    """A studio, written down a second time: all states are kept, and calls return what they should."""

    def __init__(self):
        self.past, self.future = [({}, None)], []

    def streams(self):
        return self.past[-1][0]

    def go_on(self, streams, operation):
        self.past.append((streams, operation))
        self.future = []

    def call(self, word, *items):
        if word == "put":
            self.go_on({**self.streams(), items[0]: items[1]}, (word, items[0]))
        elif word == "drop":
            self.go_on({name: s for name, s in self.streams().items() if name != items[0]}, (word,) + items)
        elif word == "edit":
            lengths = {name: s.length for name, s in self.streams().items()}
            edit = Edit(self.streams(), clip_of(items[1], lengths))
            self.go_on({**self.streams(), items[0]: edit.stream()}, (word,) + items)
            return edit.kept(), edit.renewed()
        elif word == "undo":
            for step in range(items[0]):
                self.future.append(self.past.pop())
        else:
            for step in range(items[0]):
                self.past.append(self.future.pop())

    def history(self):
        return [operation for streams, operation in self.past[1:]]


def any_call(source, plain):
    """A call that raises no error."""
    names = sorted(plain.streams())
    undone, done = len(plain.future), len(plain.past) - 1
    kind = next(source) % 8
    if kind == 0 and done:
        return "undo", 1 + next(source) % done
    if kind == 1 and undone:
        return "redo", 1 + next(source) % undone
    if kind == 2 and names:
        return "drop", names[next(source) % len(names)]
    new = "abcde"[next(source) % 5]
    if kind in (3, 4, 5) and names:
        one, two = names[next(source) % len(names)], names[next(source) % len(names)]
        script = (f"return {one} + {two}[:1]", f"x = {one}[1:]; return gain({two}[:4], 1/2) + x[:5]",
                  f"return insert({one}, 1, samples(1, 2))[:9]")[next(source) % 3]
        return "edit", new, script
    return "put", new, small(next(source), 2 + next(source) % 6, 3)


class HistoryTest(Case):

    def compare(self, studio, plain):
        self.assertEqual(studio.names(), sorted(plain.streams()))
        self.assertEqual({name: studio.stream(name) for name in studio.names()}, plain.streams())
        self.assertEqual(studio.history(), plain.history())
        self.assertEqual(len(studio), len(plain.streams()))
        self.fails(NothingToUndo, "count", len(plain.past), studio.undo, len(plain.past))
        self.fails(NothingToUndo, "count", len(plain.future) + 1, studio.redo, len(plain.future) + 1)

    def test_random_calls(self):
        for seed in range(25):
            source = sequence(seed)
            studio, plain = Studio(), PlainStudio()
            for step in range(40):
                try:
                    call = any_call(source, plain)
                    expected = plain.call(*call)
                except InvalidPlace:
                    # The sound is too short for this script: nothing changes.
                    with self.assertRaises(InvalidPlace):
                        studio.edit(*call[1:])
                else:
                    self.assertEqual(getattr(studio, call[0])(*call[1:]), expected)
                self.compare(studio, plain)

    def test_random_calls_performed_together(self):
        for seed in range(40):
            source = sequence(seed + 100)
            studio, plain = Studio(), PlainStudio()
            for step in range(8):
                calls, results = [], []
                for number in range(next(source) % 6):
                    try:
                        call = any_call(source, plain)
                        results.append(plain.call(*call))
                        calls.append(call)
                    except InvalidPlace:
                        pass
                self.assertEqual(studio.perform((list, tuple)[step % 2](calls)), results)
                self.compare(studio, plain)

    def test_undo_and_redo(self):
        studio = Studio()
        a, b = small(1), small(2)
        studio.put("a", a)
        studio.put("b", b)
        studio.put("a", b)
        studio.edit("c", "return a + b")
        studio.drop("b")
        full = state_of(studio)
        self.assertEqual(studio.history(), [("put", "a"), ("put", "b"), ("put", "a"), ("edit", "c", "return a + b"),
                                            ("drop", "b")])
        self.assertIsNone(studio.undo(count=2))
        self.assertEqual((studio.names(), studio.stream("a")), (["a", "b"], b))
        studio.undo()
        self.assertEqual(studio.stream("a"), a)
        self.assertEqual(studio.history(), [("put", "a"), ("put", "b")])
        self.assertIsNone(studio.redo(count=3))
        self.assertEqual(state_of(studio), full)
        studio.undo(5)
        self.assertEqual((studio.names(), studio.history(), len(studio)), ([], [], 0))
        self.fails(NothingToUndo, "count", 1, studio.undo)
        studio.redo()
        self.assertEqual(studio.names(), ["a"])
        for count in (2, 6, LARGE):
            self.fails(NothingToUndo, "count", count, studio.undo, count)
        for count in (5, 6, LARGE):
            self.fails(NothingToUndo, "count", count, studio.redo, count)
        studio.redo(4)
        self.assertEqual(state_of(studio), full)
        self.fails(NothingToUndo, "count", 1, studio.redo)

    def test_an_operation_makes_cancelled_ones_unavailable(self):
        for call in (("put", "x", small(9)), ("drop", "a"), ("edit", "x", "return a")):
            studio = filled(2)
            studio.put("a", small(3))
            studio.put("b", small(4))
            studio.undo()
            studio.perform([call])
            self.fails(NothingToUndo, "count", 1, studio.redo)
            self.assertEqual(len(studio.history()), 4)
            studio.undo()
            self.fails(NothingToUndo, "count", 2, studio.redo, 2)
            studio.redo()
            self.assertEqual(studio.history()[-1], call[:2] if call[0] == "put" else call)

    def test_calls_that_fail_keep_the_cancelled_operations(self):
        studio = filled(3)
        studio.undo(2)
        before = state_of(studio)
        self.assertEqual(before[4], 2)
        for kind, call in ((UnknownName, lambda: studio.drop("q")), (UnknownName, lambda: studio.put("", small(1))),
                           (InvalidStream, lambda: studio.put("q", None)), (ScriptError, lambda: studio.edit("q", "")),
                           (UnknownName, lambda: studio.edit("q", "return q")), (InvalidNumber, lambda: studio.undo(0)),
                           (NothingToUndo, lambda: studio.redo(3)), (NothingToUndo, lambda: studio.undo(2)),
                           (UnknownName, lambda: studio.stream("q")), (InvalidPlan, lambda: studio.perform(None)),
                           (UnknownName, lambda: studio.perform([("put", "x", small(1)), ("drop", "y")]))):
            self.assertRaises(kind, call)
            self.assertEqual(state_of(studio), before)
        studio.redo(2)
        self.assertEqual(len(studio), 3)


class EditTest(Case):

    def test_results_of_edits(self):
        studio = filled(2)
        self.assertEqual(studio.edit("x", "return na + nb"), (4, 0))
        self.assertEqual(studio.edit("x", "return x[1:] + samples(5)"), (3, 2))
        self.assertEqual(studio.stream("x").sound(), (small(0).sound() + small(1).sound())[1:] + [5])
        self.assertEqual(studio.edit(name="e", script="return silence(0)"), (0, 0))
        self.assertEqual(studio.stream(name="e"), Stream([]))
        self.assertEqual(studio.history()[-1], ("edit", "e", "return silence(0)"))
        # The edit is one of all current streams, also of the one whose name it gets.
        self.assertEqual(studio.edit("na", "na = nb; return na * 2"), (4, 0))
        self.assertEqual(studio.stream("na").sound(), small(1).sound() * 2)

    def test_errors_of_edits_change_nothing(self):
        studio = filled(2)
        studio.put("big", encode([1] * 20000, even_plan(20000, 64, HARD, 0, 1)))
        studio.undo()
        studio.redo()
        before = state_of(studio)
        for script, kind, field, value in (("", ScriptError, "line", 1), (None, ScriptError, "line", None),
                                           (["return na"], ScriptError, "line", None),
                                           ("return na\nreturn", ScriptError, "line", 2),
                                           ("return q", UnknownName, "name", "q"),
                                           ("return na[9:]", InvalidPlace, "value", 9),
                                           ("return gain(na, 1/0)", InvalidNumber, "value", 0),
                                           ("x = na * 9999999999; return " + "x * 9999999999 * 99999999999999999999999",
                                            LimitExceeded, "limit", 10 ** 40),
                                           ("return na + big", LimitExceeded, "limit", 20000),
                                           ("return (na + nb) * 2000", LimitExceeded, "limit", 5000)):
            for name in ("x", "na"):
                self.fails(kind, field, value, studio.edit, name, script)
                self.assertEqual(state_of(studio), before)
            self.fails(UnknownName, "name", "X", studio.edit, "X", script)

    def test_the_twenty_first_name(self):
        studio = filled(20)
        before = state_of(studio)
        self.fails(LimitExceeded, "limit", 20, studio.put, "x", small(1))
        self.fails(LimitExceeded, "limit", 20, studio.edit, "x", "return na")
        self.fails(InvalidStream, "index", None, studio.put, "x", None)
        self.fails(UnknownName, "name", "X", studio.put, "X", small(1))
        self.fails(ScriptError, "line", 1, studio.edit, "x", "return")
        self.fails(LimitExceeded, "limit", 5000, studio.edit, "x", "return (na + nb) * 2000")
        self.assertEqual(state_of(studio), before)
        studio.put("na", small(30))
        self.assertEqual(studio.edit("nb", "return na"), (2, 0))
        studio.drop("nc")
        studio.edit("x", "return na")
        self.assertEqual(len(studio), 20)
        self.fails(LimitExceeded, "limit", 20, studio.perform, [("drop", "nd"), ("put", "y", small(1)),
                                                                ("put", "z", small(1))])


class ErrorsTest(Case):

    def test_names(self):
        studio = filled(1)
        for name in NO_NAMES:
            self.fails(UnknownName, "name", name, studio.put, name, None)
            self.fails(UnknownName, "name", name, studio.drop, name)
            self.fails(UnknownName, "name", name, studio.edit, name, None)
            self.fails(UnknownName, "name", name, studio.stream, name)
        for name in ("a", "abcdefgh", "return"):
            self.fails(UnknownName, "name", name, studio.drop, name)
            self.fails(UnknownName, "name", name, studio.stream, name)
            studio.put(name=name, stream=small(1))
            studio.drop(name=name)

    def test_streams(self):
        studio = Studio()
        for value in NO_INTEGERS + (0, small(1).records, small(1).sound(), Stream, Clip.silence(1), Studio()):
            self.fails(InvalidStream, "index", None, studio.put, "a", value)
        self.assertEqual(studio.history(), [])

    def test_counts(self):
        studio = filled(3)
        studio.undo()
        for count in NO_INTEGERS + (0, -1, -LARGE):
            self.fails(InvalidNumber, "value", count, studio.undo, count)
            self.fails(InvalidNumber, "value", count, studio.redo, count)


class PerformTest(Case):

    def test_all_kinds_of_calls(self):
        studio = Studio()
        calls = [("put", "a", small(1)), ("put", "b", small(2)), ("edit", "c", "return a + b"), ("drop", "a"),
                 ("undo", 2), ("redo", 1), ("edit", "d", "return c[:1]")]
        self.assertEqual(studio.perform(calls=calls), [None, None, (4, 0), None, None, None, (0, 1)])
        self.assertEqual(studio.history(), [("put", "a"), ("put", "b"), ("edit", "c", "return a + b"),
                                            ("edit", "d", "return c[:1]")])
        self.assertEqual(Studio().perform([]), [])
        self.assertEqual(Studio().perform(()), [])
        # Each of the calls is an operation of its own.
        studio.undo(3)
        self.assertEqual(studio.names(), ["a"])
        studio.redo(3)
        self.assertEqual(studio.names(), ["a", "b", "c", "d"])
        studio.perform([])
        studio.undo()
        studio.perform([])
        studio.redo()

    def test_one_that_fails(self):
        studio = filled(2)
        studio.put("x", small(5))
        studio.undo()
        before = state_of(studio)
        good = [("put", "a", small(1)), ("drop", "na"), ("edit", "b", "return a"), ("undo", 1)]
        for call, kind, field, value in ((("put", "A", small(1)), UnknownName, "name", "A"),
                                         (("put", "a", 5), InvalidStream, "index", None),
                                         (("drop", "na"), UnknownName, "name", "na"),
                                         (("edit", "c", "return"), ScriptError, "line", 1),
                                         (("edit", "c", "return a[9:]"), InvalidPlace, "value", 9),
                                         (("undo", 0), InvalidNumber, "value", 0),
                                         (("undo", None), InvalidNumber, "value", None),
                                         (("undo", 5), NothingToUndo, "count", 5),
                                         (("redo", 2), NothingToUndo, "count", 2)):
            for calls in (good + [call], good + [call] + good, tuple(good + [call, ("drop", "q")])):
                self.fails(kind, field, value, studio.perform, calls)
                self.assertEqual(state_of(studio), before)
        # What came after an undo within the calls is gone with them.
        self.fails(UnknownName, "name", "q", studio.perform, [("undo", 2), ("put", "k", small(1)), ("drop", "q")])
        self.assertEqual(state_of(studio), before)
        studio.redo()
        self.assertEqual(studio.names(), ["na", "nb", "x"])

    def test_items_that_are_no_calls(self):
        studio = filled(2)
        before = state_of(studio)
        for value in NO_INTEGERS + (0, "undo", studio, small(1)):
            if not isinstance(value, (list, tuple)):
                self.fails(InvalidPlan, "index", None, studio.perform, value)
        for item in NO_INTEGERS + (0, "undo", ("undo",), ("undo", 1, 1), ("redo",), ("drop",), ("drop", "a", 1),
                                   ("put", "a"), ("put", "a", small(1), 1), ("edit", "a"), ("edit", "a", "return a", 1),
                                   ("names",), ("clone",), ("history",), ("perform", []), ("stream", "a"), ("Undo", 1),
                                   ("", 1), (None, 1), (["undo"], 1), ({}, 1), (1, 1), (b"undo", 1), ["undo", 1],
                                   ["drop", "na"], ["put", "a", small(1)], ["edit", "a", "return na"]):
            self.fails(InvalidPlan, "index", 0, studio.perform, [item])
            # Before any call is performed, also one that would raise another error.
            self.fails(InvalidPlan, "index", 2, studio.perform, [("drop", "na"), ("drop", "zz"), item, item])
            self.fails(InvalidPlan, "index", 1, studio.perform, (("undo", 2), item))
            self.assertEqual(state_of(studio), before)


class CloneTest(Case):

    def test_clones_are_independent(self):
        studio = filled(3)
        studio.undo()
        before = state_of(studio)
        other = studio.clone()
        self.assertIs(type(other), Studio)
        self.assertEqual(other, studio)
        self.assertEqual(state_of(other), before)
        other.drop("na")
        other.put("x", small(1))
        other.undo()
        self.assertEqual(state_of(studio), before)
        after = state_of(other)
        studio.redo()
        studio.put("y", small(2))
        studio.undo(3)
        self.assertEqual(state_of(other), after)
        other.perform([("redo", 1), ("undo", 2)])
        self.assertEqual(studio.names(), ["na"])

    def test_equality_and_length(self):
        self.assertEqual(Studio(), Studio())
        self.assertEqual(len(Studio()), 0)
        one, two = filled(2), filled(2)
        self.assertTrue(one == two)
        self.assertFalse(one != two)
        # What was cancelled has no meaning for this.
        one.put("x", small(1))
        self.assertNotEqual(one, two)
        one.undo()
        self.assertEqual(one, two)
        # The same streams with another history, and the same history with other streams.
        one.drop("na")
        one.put("na", small(0))
        self.assertEqual(one.names(), two.names())
        self.assertNotEqual(one, two)
        one, two = Studio(), Studio()
        one.put("a", small(1))
        two.put("a", small(2))
        self.assertEqual(one.history(), two.history())
        self.assertNotEqual(one, two)
        one, two = filled(1), filled(1)
        one.edit("b", "return na")
        two.edit("b", "return  na")
        self.assertEqual(one.stream("b"), two.stream("b"))
        self.assertNotEqual(one, two)
        for value in NO_INTEGERS + (0, 2, one.names(), small(1), Stream([]), Clip.silence(0), Studio):
            self.assertFalse(one == value)
            self.assertTrue(one != value)
            self.assertFalse(Studio() == value)

    def test_what_is_returned_or_taken_can_be_changed(self):
        studio = Studio()
        stream = Stream(any_built(5).records)
        studio.put("a", stream)
        before = state_of(studio)
        stream.records.clear()
        stream.sound().clear()
        studio.stream("a").records.clear()
        studio.names().append("x")
        studio.history().clear()
        calls = [("put", "b", small(1)), ("undo", 1)]
        studio.perform(calls).append(1)
        self.assertEqual(len(calls), 2)
        calls.clear()
        self.assertEqual(state_of(studio)[:4], before[:4])
        self.assertEqual(copy.copy(studio.history()), [("put", "a")])

    def test_a_stream_for_each_studio(self):
        one, two = Studio(), Studio()
        one.put("a", small(1))
        self.assertEqual((len(one), len(two), two.names(), two.history()), (1, 0, [], []))


if __name__ == "__main__":
    unittest.main()
