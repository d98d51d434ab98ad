import copy
import time
import unittest

from framejoins.clips import Clip
from framejoins.errors import InvalidNumber, InvalidPlace, InvalidSound, LimitExceeded, UnknownName
from framejoins.streams import Stream
from helpers import LARGE, NO_INTEGERS, Case, sequence
from plain_clips import any_clip, many_pieces, span_of, spelled_out

SOUNDS = {"a": [3, -1, 4, 1, -5, 9], "b": (2, 7, 1, 8), "c": [5]}
NO_NAMES = (None, True, 1, b"a", ["a"], ("a",), {"a": 1}, {"a"}, "", "A", "abcdefghi", "a b", " a", "a ", "a1", "1",
            "a-b", "a\n", "\n", "aB", "Ba", "-")
GREAT = 10 ** 30


def parts(many):
    """A clip of so many pieces."""
    return sum_of([Clip.part("a", 0, 1)] * many)


def sum_of(clips):
    total = Clip.silence(0)
    for clip in clips:
        total = total + clip
    return total


def plain_sample(pieces, place):
    """The sample at a place, also of great repeats."""
    for piece in pieces:
        span = span_of([piece])
        if place < span:
            if piece[0] == "repeat":
                return plain_sample(piece[2], place % span_of(piece[2]))
            return spelled_out([piece], SOUNDS)[place]
        place -= span


class PiecesTest(Case):

    def test_example(self):
        c = (Clip.part('a', 0, 3) + Clip.part('a', 3, 5) + Clip.silence(1)) * 2
        self.assertEqual([c.pieces(), c.cut(4, 8).pieces(), c.sample(6, {'a': [1, 2, 3, 4, 5]})],
                         [[('repeat', 2, (('part', 'a', 0, 5, ()), ('silence', 1)))],
                          [('part', 'a', 4, 5, ()), ('silence', 1), ('part', 'a', 0, 2, ())], 1])

    def test_random_clips(self):
        for seed in range(2500):
            clip, pieces = any_clip(sequence(seed), SOUNDS, 4)
            samples = spelled_out(pieces, SOUNDS)
            self.assertEqual(clip.pieces(), pieces, seed)
            self.assertEqual(clip.length, len(samples))
            self.assertEqual([clip.sample(place, SOUNDS) for place in range(len(samples))], samples)

    def test_names(self):
        self.assertEqual(Clip.silence(3).names(), [])
        clip = Clip.part("b", 1, 2) * 3 + Clip.part("zz", 0, 9) + (Clip.part("a", 5, 6) + Clip.part("b", 0, 1)) * 2
        self.assertEqual(clip.names(), ["a", "b", "zz"])
        self.assertEqual((clip + Clip.part("c", 4, 4)).gained(0, 1).names(), ["a", "b", "zz"])

    def test_empty_pieces_are_left_out(self):
        for clip in (Clip.silence(0), Clip.samples([]), Clip.samples(()), Clip.part("a", 7, 7), Clip.silence(0) * 5,
                     Clip.silence(5) * 0, Clip.part("a", 0, 9).cut(4, 4), Clip.silence(0).cut(0, 0),
                     Clip.silence(0).gained(1, 2), Clip.silence(0) + Clip.samples([])):
            self.assertEqual((clip.pieces(), clip.length, clip.names()), ([], 0, []))

    def test_parts_that_continue_each_other(self):
        one = Clip.part("a", 2, 4)
        self.assertEqual((one + Clip.part("a", 4, 9)).pieces(), [("part", "a", 2, 9, ())])
        for other in (Clip.part("a", 5, 9), Clip.part("a", 3, 9), Clip.part("a", 2, 4), Clip.part("a", 0, 2),
                      Clip.part("b", 4, 9), Clip.part("a", 4, 9).gained(1, 1)):
            self.assertEqual((one + other).pieces(), one.pieces() + other.pieces())
        gained = one.gained(1, 2).gained(3, 1) + Clip.part("a", 4, 9).gained(1, 2).gained(3, 1)
        self.assertEqual(gained.pieces(), [("part", "a", 2, 9, ((1, 2), (3, 1)))])
        other = one.gained(1, 2).gained(3, 1) + Clip.part("a", 4, 9).gained(3, 1).gained(1, 2)
        self.assertEqual(len(other.pieces()), 2)
        three = Clip.part("a", 0, 1) + (Clip.part("a", 1, 2) + Clip.part("a", 2, 3))
        self.assertEqual(three.pieces(), [("part", "a", 0, 3, ())])
        self.assertEqual((one.cut(0, 1) + one.cut(1, 2)), one)

    def test_silences_and_samples_beside_each_other(self):
        self.assertEqual((Clip.silence(2) + Clip.silence(GREAT)).pieces(), [("silence", 2 + GREAT)])
        self.assertEqual((Clip.silence(2) + (Clip.silence(1) + Clip.samples([0]))).pieces(),
                         [("silence", 3), ("samples", (0,), ())])
        self.assertEqual((Clip.samples([1]) + Clip.samples([2])).pieces(), [("samples", (1,), ()), ("samples", (2,), ())])

    def test_repeats(self):
        part = Clip.part("a", 0, 2)
        self.assertEqual((part * 0).pieces(), [])
        self.assertEqual((part * 1).pieces(), part.pieces())
        self.assertEqual((part * 2).pieces(), [("repeat", 2, (("part", "a", 0, 2, ()),))])
        self.assertEqual((Clip.silence(3) * 5).pieces(), [("silence", 15)])
        self.assertEqual((Clip.silence(3) * 1).pieces(), [("silence", 3)])
        self.assertEqual((part * 2 * 3 * 5).pieces(), [("repeat", 30, (("part", "a", 0, 2, ()),))])
        self.assertEqual((part * 2 * 1).pieces(), (part * 2).pieces())
        self.assertEqual(((part * 2 + part) * 3).pieces(),
                         [("repeat", 3, (("repeat", 2, (("part", "a", 0, 2, ()),)), ("part", "a", 0, 2, ())))])
        self.assertEqual((part * GREAT * 10 ** 9).pieces(), [("repeat", 10 ** 39, (("part", "a", 0, 2, ()),))])

    def test_nothing_is_joined_across_the_ends_of_a_repeat(self):
        inner = Clip.silence(1) + Clip.part("a", 0, 2) + Clip.silence(1)
        clip = Clip.silence(2) + inner * 3 + Clip.silence(4)
        self.assertEqual(clip.pieces(), [("silence", 2), ("repeat", 3, tuple(inner.pieces())), ("silence", 4)])
        clip = Clip.part("a", 0, 2) + Clip.part("a", 2, 3) * 2 + Clip.part("a", 3, 4)
        self.assertEqual([piece[0] for piece in clip.pieces()], ["part", "repeat", "part"])
        self.assertEqual([piece[:2] for piece in (inner * 2 + inner * 3).pieces()], [("repeat", 2), ("repeat", 3)])

    def test_stretches_of_repeats(self):
        inner = Clip.silence(1) + Clip.part("a", 0, 3) + Clip.silence(1)
        clip, pieces = inner * 4, tuple(inner.pieces())
        part = ("part", "a", 0, 3, ())
        self.assertEqual(clip.cut(0, 20), clip)
        self.assertEqual(clip.cut(0, 15).pieces(), [("repeat", 3, pieces)])
        self.assertEqual(clip.cut(5, 15).pieces(), [("repeat", 2, pieces)])
        self.assertEqual(clip.cut(5, 10), inner)
        self.assertEqual(clip.cut(4, 10).pieces(), [("silence", 2), part, ("silence", 1)])
        self.assertEqual(clip.cut(5, 11).pieces(), [("silence", 1), part, ("silence", 2)])
        self.assertEqual(clip.cut(4, 11).pieces(), [("silence", 2), part, ("silence", 2)])
        self.assertEqual(clip.cut(4, 6).pieces(), [("silence", 2)])
        self.assertEqual(clip.cut(6, 9).pieces(), [part])
        self.assertEqual(clip.cut(7, 8).pieces(), [("part", "a", 1, 2, ())])
        self.assertEqual(clip.cut(2, 7).pieces(),
                         [("part", "a", 1, 3, ()), ("silence", 2), ("part", "a", 0, 1, ())])
        self.assertEqual(clip.cut(4, 16).pieces(), [("silence", 1), ("repeat", 2, pieces), ("silence", 1)])
        self.assertEqual(clip.cut(10, 10).pieces(), [])

    def test_a_whole_copy_is_joined_with_its_neighbours(self):
        clip = Clip.part("a", 0, 2) * 3 + Clip.part("a", 2, 4)
        self.assertEqual(clip.cut(4, 8).pieces(), [("part", "a", 0, 4, ())])
        clip = Clip.silence(3) + (Clip.silence(1) + Clip.samples([1])) * 2
        self.assertEqual(clip.cut(1, 5).pieces(), [("silence", 3), ("samples", (1,), ())])
        clip = ((Clip.silence(1) + Clip.samples([1])) * 2 + Clip.silence(1)) * 2
        self.assertEqual(clip.cut(3, 7).pieces(), [("samples", (1,), ()), ("silence", 2), ("samples", (1,), ())])

    def test_stretches_of_stretches(self):
        clip = Clip.samples([1, 2, 3, 4, 5]).gained(2, 1) + Clip.part("a", 3, 6).gained(-1, 2)
        self.assertEqual(clip.cut(1, 7).cut(1, 5).pieces(),
                         [("samples", (3, 4, 5), ((2, 1),)), ("part", "a", 3, 4, ((-1, 2),))])

    def test_gains(self):
        clip = (Clip.samples([1, -2]) + Clip.silence(1)) * 2 + Clip.part("a", 0, 1)
        self.assertEqual(clip.gained(-3, 2).gained(1, 1).pieces(),
                         [("repeat", 2, (("samples", (1, -2), ((-3, 2), (1, 1))), ("silence", 1))),
                          ("part", "a", 0, 1, ((-3, 2), (1, 1)))])
        values = [-1000, -3, -2, -1, 0, 1, 2, 3, 999]
        for top in (-1000, -7, -1, 0, 1, 2, 1000):
            for bottom in (1, 2, 3, 1000):
                clip = Clip.samples(values).gained(top, bottom)
                self.assertEqual([clip.sample(place, {}) for place in range(9)],
                                 [(2 * v * top + bottom) // (2 * bottom) for v in values])
        # The order of the gains has a meaning.
        self.assertEqual(Clip.samples([1]).gained(1, 3).gained(3, 1).sample(0, {}), 0)
        self.assertEqual(Clip.samples([1]).gained(3, 1).gained(1, 3).sample(0, {}), 1)

    def test_arguments_by_name(self):
        clip = Clip.part(name="a", start=1, end=4) + Clip.silence(count=2) + Clip.samples(sound=(7, 8))
        self.assertEqual(clip.pieces(), [("part", "a", 1, 4, ()), ("silence", 2), ("samples", (7, 8), ())])
        self.assertEqual(clip.cut(start=3, end=6).gained(top=1, bottom=2).pieces(),
                         [("silence", 2), ("samples", (7,), ((1, 2),))])
        self.assertEqual(clip.sample(place=0, sounds=SOUNDS), -1)


class GreatTest(Case):

    def test_places_of_great_repeats(self):
        clip = (Clip.part("a", 1, 4) + Clip.silence(2)) * GREAT
        self.assertEqual(clip.length, 5 * GREAT)
        for place in (0, 3, 5 * GREAT - 1, 5 * GREAT - 3, 10 ** 15 + 2, GREAT // 3):
            self.assertEqual(clip.sample(place, SOUNDS), [-1, 4, 1, 0, 0][place % 5])
        self.assertEqual(clip.cut(5 * 10 ** 20 + 1, 5 * 10 ** 25 + 2).pieces(),
                         [("part", "a", 2, 4, ()), ("silence", 2),
                          ("repeat", 10 ** 25 - 10 ** 20 - 1, tuple(clip.pieces()[0][2])), ("part", "a", 1, 3, ())])

    def test_nested_great_repeats(self):
        source = sequence(5)
        for seed in range(60):
            clip, pieces = any_clip(sequence(seed + 500), SOUNDS, 3)
            for level in range(3):
                clip = (clip + Clip.samples([level, -level])) * [10 ** 12, 10 ** 4, 10 ** 9, 7][next(source) % 4]
            places = [0, 1, clip.length - 1, clip.length // 2, clip.length // 3 + next(source), clip.length - 3]
            for place in places:
                if place < clip.length:
                    self.assertEqual(clip.sample(place, SOUNDS), plain_sample(clip.pieces(), place))
            for start in [place for place in places if place <= clip.length]:
                stretch = clip.cut(start, min(start + 40, clip.length))
                self.assertEqual([stretch.sample(place, SOUNDS) for place in range(stretch.length)],
                                 [clip.sample(start + place, SOUNDS) for place in range(stretch.length)])
            rest = clip.cut(1, clip.length - 1)
            self.assertEqual(rest.length, clip.length - 2)
            for place in (0, rest.length // 2, rest.length - 1):
                self.assertEqual(rest.sample(place, SOUNDS), clip.sample(place + 1, SOUNDS))

    def test_repeats_as_deep_as_they_can_be(self):
        start = time.perf_counter()
        clip = Clip.part("a", 0, 6)
        for level in range(99):
            clip = (clip + Clip.silence(1)) * 2
        self.assertEqual(clip.length, 8 * 2 ** 99 - 2)
        self.assertEqual(many_pieces(clip.pieces()), 199)
        self.assertEqual([clip.sample(place, SOUNDS) for place in range(7)], SOUNDS["a"] + [0])
        self.assertEqual(clip.sample(clip.length - 1, SOUNDS), 0)
        self.assertEqual(clip.cut(0, clip.length), clip)
        self.assertEqual(clip.cut(clip.length - 99 - 6, clip.length - 99).pieces(), [("part", "a", 0, 6, ())])
        self.assertEqual(clip.gained(1, 2).length, clip.length)
        self.assertNotEqual(clip.gained(1, 2), clip)
        self.assertLess(time.perf_counter() - start, 10)


class EqualityTest(Case):

    def test_equal_clips(self):
        part = Clip.part("a", 0, 5)
        self.assertEqual(part, Clip.part("a", 0, 2) + Clip.part("a", 2, 5))
        self.assertEqual(Clip.silence(6), Clip.silence(2) * 3)
        self.assertEqual(Clip.silence(0), Clip.samples([]))
        self.assertEqual(part * 6, part * 2 * 3)
        self.assertEqual((part * 5).cut(5, 15), part * 2)
        self.assertTrue(Clip.samples([1, 2]) == Clip.samples((1, 2)))
        self.assertFalse(Clip.samples([1, 2]) != Clip.samples((1, 2)))

    def test_unequal_clips(self):
        part = Clip.part("a", 0, 5)
        for other in (part + part, part.gained(1, 1), Clip.part("a", 0, 4), Clip.part("b", 0, 5), Clip.silence(0),
                      part + Clip.silence(1)):
            self.assertFalse(part == other)
            self.assertTrue(part != other)
        # The samples are equal, the pieces are not.
        self.assertNotEqual(part + part, part * 2)
        self.assertNotEqual(Clip.samples([0]), Clip.silence(1))
        self.assertNotEqual(Clip.samples([1]) + Clip.samples([2]), Clip.samples([1, 2]))
        self.assertNotEqual(part * 2 + part * 3, part * 5)

    def test_values_of_other_kinds(self):
        for clip in (Clip.silence(0), Clip.silence(1), Clip.part("a", 0, 1)):
            for other in NO_INTEGERS + (0, 1, clip.pieces(), tuple(clip.pieces()), Stream([]), Clip, object()):
                self.assertFalse(clip == other)
                self.assertTrue(clip != other)


class ImmutableTest(Case):

    def test_arguments_are_copied_and_results_are_new(self):
        sound = [1, 2, 3]
        clip = Clip.samples(sound) * 2 + Clip.part("a", 0, 2)
        before = copy.deepcopy(clip.pieces())
        sound.append(4)
        sound[0] = 9
        clip.pieces().clear()
        clip.names().append("x")
        clip.pieces().append(None)
        self.assertEqual(clip.pieces(), before)
        self.assertEqual(clip.names(), ["a"])
        sounds = {"a": [5, 6]}
        self.assertEqual(clip.sample(7, sounds), 6)
        self.assertEqual(sounds, {"a": [5, 6]})

    def test_operations_change_no_clip(self):
        one, two = Clip.part("a", 0, 2), Clip.part("a", 2, 4)
        total = one
        total += two
        total *= 2
        one.cut(0, 1), one.gained(2, 1), one * 3, one + two
        self.assertEqual((one.pieces(), two.pieces()), ([("part", "a", 0, 2, ())], [("part", "a", 2, 4, ())]))
        self.assertEqual(total.pieces(), [("repeat", 2, (("part", "a", 0, 4, ()),))])
        for kind in (list, tuple):
            self.assertEqual(type(Clip.samples(kind([1])).pieces()[0][1]), tuple)


class ErrorsTest(Case):

    def test_names(self):
        for name in NO_NAMES:
            self.fails(UnknownName, "name", name, Clip.part, name, None, None)
        for name in ("a", "z", "abcdefgh", "return", "cut"):
            self.assertEqual(Clip.part(name, 0, 1).names(), [name])

    def test_places_of_parts(self):
        for place in NO_INTEGERS + (-1, -LARGE):
            self.fails(InvalidPlace, "value", place, Clip.part, "a", place, None)
            self.fails(InvalidPlace, "value", place, Clip.part, "a", 0, place)
        self.fails(InvalidPlace, "value", 4, Clip.part, "a", 5, 4)
        self.assertEqual(Clip.part("a", LARGE - 5, LARGE).length, 5)
        self.assertEqual(Clip.part("a", LARGE, LARGE).pieces(), [])

    def test_silences(self):
        for count in NO_INTEGERS + (-1, GREAT + 1, LARGE):
            self.fails(InvalidNumber, "value", count, Clip.silence, count)
        self.assertEqual(Clip.silence(GREAT).length, GREAT)

    def test_samples(self):
        for value in (None, True, 1, "12", b"12", {1: 2}, {1}, Clip.silence(1)):
            self.fails(InvalidSound, "index", None, Clip.samples, value)
        for value in NO_INTEGERS:
            self.fails(InvalidSound, "index", 1, Clip.samples, [1, value, None])
            self.fails(InvalidSound, "index", 0, Clip.samples, (value,))

    def test_factors(self):
        for clip in (Clip.silence(1), Clip.silence(0), Clip.part("a", 0, 1)):
            for n in NO_INTEGERS + (-1, GREAT + 1, LARGE, clip):
                self.fails(InvalidNumber, "value", n, lambda: clip * n)
            self.assertEqual((clip * GREAT).length, clip.length * GREAT)

    def test_stretches(self):
        clip = Clip.silence(3) + Clip.samples([1, 2])
        for place in NO_INTEGERS + (-1, 6, LARGE):
            self.fails(InvalidPlace, "value", place, clip.cut, place, None)
            self.fails(InvalidPlace, "value", place, clip.cut, 0, place)
        self.fails(InvalidPlace, "value", 2, clip.cut, 3, 2)
        self.fails(InvalidPlace, "value", 1, Clip.silence(0).cut, 1, 0)
        self.assertEqual(clip.cut(5, 5).pieces(), [])
        self.assertEqual(clip.cut(0, 5), clip)

    def test_gains(self):
        clip = Clip.samples([1])
        for value in NO_INTEGERS + (-1001, 1001, LARGE):
            self.fails(InvalidNumber, "value", value, clip.gained, value, None)
        for value in NO_INTEGERS + (0, -1, 1001):
            self.fails(InvalidNumber, "value", value, clip.gained, 0, value)
        self.assertEqual(clip.gained(1000, 1).gained(-1000, 1000).sample(0, {}), -1000)
        self.fails(InvalidNumber, "value", 1001, Clip.silence(0).gained, 1001, 0)

    def test_places_of_samples(self):
        clip = Clip.part("a", 0, 2)
        for place in NO_INTEGERS + (-1, 2, LARGE):
            self.fails(InvalidPlace, "value", place, clip.sample, place, {})
        self.fails(InvalidPlace, "value", 0, Clip.silence(0).sample, 0, {})

    def test_names_that_are_not_there(self):
        clip = Clip.part("b", 0, 2) + (Clip.silence(3) + Clip.part("ab", 0, 1)) * 2 + Clip.part("a", 0, 1)
        for place in (0, 1, 2, clip.length - 1):
            self.fails(UnknownName, "name", "a", clip.sample, place, {})
            self.fails(UnknownName, "name", "ab", clip.sample, place, {"a": [1]})
            self.fails(UnknownName, "name", "ab", clip.sample, place, {"a": [1], "b": [2, 3]})
            self.fails(UnknownName, "name", "b", clip.sample, place, {"ab": [1], "a": [2]})
        self.fails(InvalidPlace, "value", -1, clip.sample, -1, {})

    def test_longest_clips(self):
        longest = Clip.silence(GREAT) * 10 ** 10
        self.assertEqual(longest.length, 10 ** 40)
        self.fails(LimitExceeded, "limit", 10 ** 40, lambda: longest + Clip.silence(1))
        self.fails(LimitExceeded, "limit", 10 ** 40, lambda: longest * 2)
        self.fails(LimitExceeded, "limit", 10 ** 40, Clip.part, "a", 0, 10 ** 40 + 1)
        self.assertEqual(Clip.part("a", 0, 10 ** 40).length, 10 ** 40)
        self.assertEqual((longest * 0 + longest * 1).length, 10 ** 40)
        self.assertEqual((longest + Clip.silence(0)).length, 10 ** 40)

    def test_most_pieces(self):
        self.assertEqual(len(parts(200).pieces()), 200)
        self.fails(LimitExceeded, "limit", 200, lambda: parts(200) + Clip.silence(1))
        self.fails(LimitExceeded, "limit", 200, lambda: parts(200) * 2)
        self.assertEqual(many_pieces((parts(199) * 2).pieces()), 200)
        self.assertEqual(many_pieces((parts(150) * 2 + parts(49)).pieces()), 200)
        self.fails(LimitExceeded, "limit", 200, lambda: parts(150) * 2 + parts(50))
        # Neighbours that become one piece are counted as one.
        silent = parts(199) + Clip.silence(1)
        self.assertEqual(len((silent + Clip.silence(1)).pieces()), 200)
        self.assertEqual(parts(200) * 0, Clip.silence(0))
        self.assertEqual(parts(200) * 1, parts(200))

    def test_stretches_with_too_many_pieces(self):
        clip = parts(100) * 5
        self.assertEqual(many_pieces(clip.cut(1, 400).pieces()), 99 + 101)
        self.assertEqual(many_pieces(clip.cut(50, 199).pieces()), 50 + 99)
        self.fails(LimitExceeded, "limit", 200, clip.cut, 1, 401)
        self.fails(LimitExceeded, "limit", 200, clip.cut, 1, 499)

    def test_both_limits(self):
        many = parts(150) + Clip.part("b", 0, 10 ** 40 - 200)
        self.fails(LimitExceeded, "limit", 10 ** 40, lambda: many + parts(150))
        self.fails(LimitExceeded, "limit", 200, lambda: many + parts(50))
        self.fails(LimitExceeded, "limit", 10 ** 40, lambda: (Clip.part("b", 0, 10 ** 39) + parts(199)) * 10)
        self.fails(LimitExceeded, "limit", 200, lambda: (Clip.part("b", 0, 10 ** 39) + parts(199)) * 9)
        self.fails(InvalidNumber, "value", -1, lambda: many * -1)


if __name__ == "__main__":
    unittest.main()
