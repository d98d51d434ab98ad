import copy
import unittest

from framejoins.clips import Clip
from framejoins.errors import InvalidNumber, InvalidPlace, LimitExceeded, ScriptError, UnknownName
from framejoins.scripts import clip_of, parse_script, script_text
from helpers import NO_INTEGERS, Case, sequence
from plain_clips import spelled_out

SOUNDS = {"a": [3, -1, 4, 1, -5, 9], "bc": [2, 7, 1, 8], "long": list(range(1, 21))}
LENGTHS = {name: len(sound) for name, sound in SOUNDS.items()}
RESERVED = ("return", "silence", "samples", "gain", "insert", "replace", "cut")
A, B = ("name", "a"), ("name", "bc")

# For each row of the table: a text, its tree, and its samples.
ROWS = [
    ("a", A, SOUNDS["a"]),
    ("a + bc", ("sum", A, B), SOUNDS["a"] + SOUNDS["bc"]),
    ("a * 2", ("times", A, 2), SOUNDS["a"] * 2),
    ("a * 0", ("times", A, 0), []),
    ("a[1:4]", ("stretch", A, 1, 4), [-1, 4, 1]),
    ("a[:4]", ("stretch", A, None, 4), [3, -1, 4, 1]),
    ("a[4:]", ("stretch", A, 4, None), [-5, 9]),
    ("a[:]", ("stretch", A, None, None), SOUNDS["a"]),
    ("a[6:6]", ("stretch", A, 6, 6), []),
    ("silence(3)", ("silence", 3), [0, 0, 0]),
    ("silence(0)", ("silence", 0), []),
    ("samples(7)", ("samples", [7]), [7]),
    ("samples(7, -8, 0, -0)", ("samples", [7, -8, 0, 0]), [7, -8, 0, 0]),
    ("gain(a, 1/2)", ("gain", A, 1, 2), [2, 0, 2, 1, -2, 5]),
    ("gain(a, -3/1)", ("gain", A, -3, 1), [-9, 3, -12, -3, 15, -27]),
    ("gain(a, - 0/5)", ("gain", A, 0, 5), [0] * 6),
    ("insert(a, 2, bc)", ("insert", A, 2, B), [3, -1, 2, 7, 1, 8, 4, 1, -5, 9]),
    ("insert(a, 0, bc)", ("insert", A, 0, B), SOUNDS["bc"] + SOUNDS["a"]),
    ("insert(a, 6, bc)", ("insert", A, 6, B), SOUNDS["a"] + SOUNDS["bc"]),
    ("replace(a, 2:5, bc)", ("replace", A, 2, 5, B), [3, -1, 2, 7, 1, 8, 9]),
    ("replace(a, 3:3, bc)", ("replace", A, 3, 3, B), [3, -1, 4, 2, 7, 1, 8, 1, -5, 9]),
    ("replace(a, 0:6, bc)", ("replace", A, 0, 6, B), SOUNDS["bc"]),
    ("cut(a, 2:5)", ("cut", A, 2, 5), [3, -1, 9]),
    ("cut(a, 0:6)", ("cut", A, 0, 6), []),
    ("cut(a, 4:4)", ("cut", A, 4, 4), SOUNDS["a"]),
    ("(a)", A, SOUNDS["a"]),
    ("((a))", A, SOUNDS["a"]),
    ("a + bc + a", ("sum", ("sum", A, B), A), SOUNDS["a"] + SOUNDS["bc"] + SOUNDS["a"]),
    ("a + (bc + a)", ("sum", A, ("sum", B, A)), SOUNDS["a"] + SOUNDS["bc"] + SOUNDS["a"]),
    ("a + bc * 2", ("sum", A, ("times", B, 2)), SOUNDS["a"] + SOUNDS["bc"] * 2),
    ("(a + bc) * 2", ("times", ("sum", A, B), 2), (SOUNDS["a"] + SOUNDS["bc"]) * 2),
    ("a * 2 * 3", ("times", ("times", A, 2), 3), SOUNDS["a"] * 6),
    ("a * 2 + bc", ("sum", ("times", A, 2), B), SOUNDS["a"] * 2 + SOUNDS["bc"]),
    ("a + bc[1:2]", ("sum", A, ("stretch", B, 1, 2)), SOUNDS["a"] + [7]),
    ("a[1:2] * 3", ("times", ("stretch", A, 1, 2), 3), [-1] * 3),
    ("(a * 3)[5:8]", ("stretch", ("times", A, 3), 5, 8), [9, 3, -1]),
    ("(a + bc)[5:8]", ("stretch", ("sum", A, B), 5, 8), [9, 2, 7]),
    ("a[1:][1:][:1]", ("stretch", ("stretch", ("stretch", A, 1, None), 1, None), None, 1), [4]),
    ("cut(a, 2:5)[1:]", ("stretch", ("cut", A, 2, 5), 1, None), [-1, 9]),
    ("insert(a + a, 6, bc * 2)", ("insert", ("sum", A, A), 6, ("times", B, 2)),
     SOUNDS["a"] + SOUNDS["bc"] * 2 + SOUNDS["a"]),
    ("gain(gain(samples(9), 1/2), 5/3)", ("gain", ("gain", ("samples", [9]), 1, 2), 5, 3), [8]),
]


def without_lines(statements):
    return [statement[:1] + statement[2:] for statement in statements]


def samples_of(clip):
    return spelled_out(clip.pieces(), SOUNDS)


def many_tokens(text):
    """The numbers of tokens of each statement, where letters and digits do not touch, and the deepest brackets."""
    counts, deepest, depth = [], 0, 0
    for line in text.replace(";", "\n").split("\n"):
        spaced = line
        for sign in "+-*/()[],:=":
            spaced = spaced.replace(sign, f" {sign} ")
        if spaced.split():
            counts.append(len(spaced.split()))
        for sign in line:
            depth += (sign in "([") - (sign in ")]")
            deepest = max(deepest, depth)
    return counts, deepest


def any_tree(source, depth, length=None):
    """A tree at random, with its samples; numbers are places within it."""
    kind = next(source) % 9 if depth else 6 + next(source) % 3
    if kind == 6:
        name = sorted(SOUNDS)[next(source) % 3]
        return ("name", name), SOUNDS[name]
    if kind == 7:
        count = next(source) % 4
        return ("silence", count), [0] * count
    if kind == 8:
        samples = [next(source) % 9 - 4 for place in range(1 + next(source) % 3)]
        return ("samples", samples), list(samples)
    tree, x = any_tree(source, depth - 1)
    i = next(source) % (len(x) + 1)
    j = i + next(source) % (len(x) - i + 1)
    if kind == 0:
        n = next(source) % 3
        return ("times", tree, n), x * n
    if kind == 1:
        return ("stretch", tree, i or None, j if j < len(x) else None), x[i:j]
    if kind == 2:
        top, bottom = next(source) % 9 - 4, 1 + next(source) % 3
        return ("gain", tree, top, bottom), [(2 * v * top + bottom) // (2 * bottom) for v in x]
    if kind == 3 and next(source) % 2:
        return ("cut", tree, i, j), x[:i] + x[j:]
    other, y = any_tree(source, depth - 1)
    if kind == 3:
        return ("insert", tree, i, other), x[:i] + y + x[i:]
    if kind == 4:
        return ("replace", tree, i, j, other), x[:i] + y + x[j:]
    return ("sum", tree, other), x + y


def loose_text(tree, source):
    """A text of a tree, with blanks, brackets and zeros that it does not need."""
    def number(value):
        if value is None:
            return ""
        return ("-" if value < 0 else "") + " " * (next(source) % 2) + "0" * (next(source) % 3) + str(abs(value))

    def text(part):
        return loose_text(part, source)

    def operand(part):
        return f"({text(part)})" if part[0] in ("sum", "times") else text(part)

    words = {
        "name": lambda: tree[1],
        "sum": lambda: text(tree[1]) + "  + " + operand(tree[2]),
        "times": lambda: operand(tree[1]) + "*" + number(tree[2]),
        "stretch": lambda: f"({text(tree[1])}) [ {number(tree[2])} :{number(tree[3])}]",
        "silence": lambda: f"silence ({number(tree[1])})",
        "samples": lambda: f"samples( {' ,'.join(number(value) for value in tree[1])})",
        "gain": lambda: f"gain({text(tree[1])},{number(tree[2])} / {number(tree[3])} )",
        "insert": lambda: f"insert ( {text(tree[1])},{number(tree[2])},{text(tree[3])})",
        "replace": lambda: f"replace({text(tree[1])} , {number(tree[2])}:{number(tree[3])},{text(tree[4])})",
        "cut": lambda: f"cut({text(tree[1])},{number(tree[2])}:{number(tree[3])})",
    }[tree[0]]()
    return f"({words} )" if next(source) % 6 == 0 else words


class ParseTest(Case):

    def test_example(self):
        self.assertEqual([clip_of('x = a[1:] * 2; return x + silence(1)', {'a': 3}).pieces(),
                          parse_script('\nreturn gain(a, -1/2)')],
                         [[('repeat', 2, (('part', 'a', 1, 3, ()),)), ('silence', 1)],
                          [('return', 2, ('gain', ('name', 'a'), -1, 2))]])

    def test_each_row_parsed_and_written_and_evaluated(self):
        for text, tree, samples in ROWS:
            self.assertEqual(parse_script("return " + text), [("return", 1, tree)], text)
            self.assertEqual(parse_script("x = " + text + ";return x"),
                             [("define", 1, "x", tree), ("return", 1, ("name", "x"))])
            self.assertEqual(parse_script(script_text([("return", 1, tree)])), [("return", 1, tree)])
            self.assertEqual(samples_of(clip_of("return " + text, LENGTHS)), samples, text)

    def test_blanks_comments_and_no_blanks(self):
        for text in ("return a+bc", "return  a   +  bc # x", " return a+bc ; ", "return(a)+(bc)", "return a+bc#+"):
            self.assertEqual(parse_script(text), [("return", 1, ("sum", A, B))])
        self.fails(ScriptError, "line", 1, parse_script, "returna+bc")
        self.assertEqual(parse_script("x=insert(a,2,bc)[:3]*2;return x"),
                         parse_script("x = insert ( a , 2 , bc ) [ : 3 ] * 2 ; return x"))
        self.assertEqual(parse_script("#$%~ABC;;\nreturn a # return b; x = 1"), [("return", 2, A)])
        self.assertEqual(parse_script("return a#"), [("return", 1, A)])
        self.assertEqual(parse_script("#\n#\nx = a # = \n#\nreturn x#;#\n#"),
                         [("define", 3, "x", A), ("return", 5, ("name", "x"))])

    def test_separators_at_all_places(self):
        for before in ("", ";", "\n", " ; ;", "\n\n", "#c\n", ";\n;#c\n"):
            for between in (";", "\n", ";;", "\n\n", " \n ; ", "#c\n", "#;\n\n"):
                for behind in ("", ";", "\n", ";;\n", " ", "#c", "\n#c", "#\n"):
                    text = before + "x = a" + between + "y=bc" + between + "return x + y" + behind
                    lines = [1 + before.count("\n") + step * between.count("\n") for step in range(3)]
                    self.assertEqual(parse_script(text), [
                        ("define", lines[0], "x", A), ("define", lines[1], "y", B),
                        ("return", lines[2], ("sum", ("name", "x"), ("name", "y")))])

    def test_numbers(self):
        self.assertEqual(parse_script("return silence(000)"), [("return", 1, ("silence", 0))])
        self.assertEqual(parse_script("return a[007:0000000000]*" + "0" * 29 + "5"),
                         [("return", 1, ("times", ("stretch", A, 7, 0), 5))])
        self.assertEqual(parse_script("return silence(" + "9" * 30 + ")"), [("return", 1, ("silence", 10 ** 30 - 1))])
        self.assertEqual(parse_script("return samples(-" + "9" * 30 + ")"),
                         [("return", 1, ("samples", [1 - 10 ** 30]))])
        self.fails(ScriptError, "line", 1, parse_script, "return silence(" + "9" * 31 + ")")
        self.fails(ScriptError, "line", 1, parse_script, "return silence(" + "0" * 31 + ")")

    def test_names(self):
        for name in ("a", "abcdefgh", "zzzzzzzz", "returns", "cuts", "gains", "silences", "sample", "inserts", "retur"):
            self.assertEqual(parse_script(f"{name} = {name}; return {name}"),
                             [("define", 1, name, ("name", name)), ("return", 1, ("name", name))])
        self.fails(ScriptError, "line", 1, parse_script, "return abcdefghi")
        self.fails(ScriptError, "line", 1, parse_script, "abcdefghi = a; return a")
        for word in RESERVED:
            self.fails(ScriptError, "line", 2, parse_script, f"\n{word} = a; return a")
            self.fails(ScriptError, "line", 1, parse_script, f"return {word}")
            self.fails(ScriptError, "line", 1, parse_script, f"return a + {word};")
            self.fails(ScriptError, "line", 1, parse_script, f"return gain({word}, 1/2)")

    def test_results_are_new(self):
        text = "x = samples(1, 2); return x"
        first = parse_script(text)
        before = copy.deepcopy(first)
        first[0][3][1].append(3)
        first.clear()
        self.assertEqual(parse_script(text), before)
        self.assertEqual(parse_script(text=text), before)


class ErrorsTest(Case):

    def test_values_that_are_no_scripts(self):
        for value in NO_INTEGERS + (0, 1, b"return a", ["return a"], ("return a",)):
            if not isinstance(value, str):
                self.fails(ScriptError, "line", None, parse_script, value)
                self.fails(ScriptError, "line", None, clip_of, value, LENGTHS)

    def test_long_texts(self):
        for text in ("return a" + " " * 7992, "#" * 7991 + "\nreturn a", "return a" + ";" * 7992):
            self.assertEqual(len(text), 8000)
            self.assertEqual(parse_script(text)[0][2], A)
            self.fails(ScriptError, "line", None, parse_script, text + " ")
        self.fails(ScriptError, "line", 8001, parse_script, "\n" * 8000)
        self.fails(ScriptError, "line", None, parse_script, "\n" * 8001)
        self.fails(ScriptError, "line", None, parse_script, "$" * 8001)
        self.fails(ScriptError, "line", 1, parse_script, "$" * 8000)

    def test_characters_of_no_token(self):
        for sign in "ABZ_.$%&'\"!?<>{}|~^@`\\":
            self.fails(ScriptError, "line", 1, parse_script, sign)
            self.fails(ScriptError, "line", 2, parse_script, f"x = a\nreturn x{sign}\n")
            # A character of no token comes before tokens that do not fit.
            self.fails(ScriptError, "line", 4, parse_script, f"return +\n= a\n\nreturn {sign}")
            self.fails(ScriptError, "line", 3, parse_script, f"return a\nabcdefghijk\n{sign}")
            self.assertEqual(parse_script(f"return a # {sign}"), [("return", 1, A)])
        self.fails(ScriptError, "line", 2, parse_script, "#$\n$")

    def test_tokens_that_do_not_fit(self):
        for text in ("return", "return a a", "return a b", "return 1", "return a +", "return + a", "return a * b",
                     "return a * -1", "return a * 2[0:1]", "return a - b", "return a / 2", "return -a", "return a,",
                     "return a]", "return a)", "return (a", "return (a]", "return ()", "return a[1]", "return a[:",
                     "return a[1:2", "return a[-1:2]", "return a[1:2:3]", "return a[1,2]", "return [a]",
                     "return silence()", "return silence(-1)", "return silence(a)", "return silence 1",
                     "return silence(1, 2)", "return samples()", "return samples(1,)", "return samples(,1)",
                     "return samples(1 2)", "return samples(--1)", "return samples(+1)", "return samples(a)",
                     "return gain(a)", "return gain(a, 1)", "return gain(a, 1/)", "return gain(a, 1/-2)",
                     "return gain(a, 1:2)", "return gain(a 1/2)", "return gain(1/2, a)", "return insert(a, 1)",
                     "return insert(a, b, 1)", "return insert(a, -1, b)", "return insert(a, 1:2, b)",
                     "return replace(a, 1, b)", "return replace(a, :1, b)", "return replace(a, 1:, b)",
                     "return replace(a, 1:2)", "return cut(a)", "return cut(a, 1)", "return cut(a, :1)",
                     "return cut(a, 1:)", "return cut(a, :)", "return cut(a, 1:2, b)", "return cut(a, -1:2)",
                     "return return a", "return a = b", "x a", "x = ", "x", "= a", "1 = a", "x == a", "x = y = a",
                     "(x) = a", "x[0:1] = a", "x = return a", "x = a return x", "return a return a", "a", "a + a",
                     "x = 1", "12ab", "return 12ab", "return a1", "return a 1", ": a", "+", "-", "*", "/", "[", ","):
            self.fails(ScriptError, "line", 1, parse_script, text)
            self.fails(ScriptError, "line", 3, parse_script, "\n;\n" + text)
            if text not in ("a", "x", "x = ", "return"):
                self.fails(ScriptError, "line", 2, parse_script, "y = a\n" + text + " # ..")

    def test_the_first_mistake_counts(self):
        self.fails(ScriptError, "line", 2, parse_script, "x = a\nx = = a\nreturn")
        self.fails(ScriptError, "line", 3, parse_script, "x = a\nreturn x\ny = a\nreturn 1")
        self.fails(ScriptError, "line", 4, parse_script, "return a\n\n\nreturn a")
        self.fails(ScriptError, "line", 4, parse_script, "return a\n\n\na\n")
        self.fails(ScriptError, "line", 1, parse_script, "return (a\n)")
        self.fails(ScriptError, "line", 1, parse_script, "return a +\na")
        self.fails(ScriptError, "line", 2, parse_script, "\nx =\na")
        self.fails(ScriptError, "line", 1, parse_script, "x = a + ;\nreturn")
        self.fails(ScriptError, "line", 1, parse_script, "return\na")

    def test_scripts_that_are_not_complete(self):
        for text, line in (("", 1), ("\n", 2), ("\n\n", 3), (";;", 1), ("# c", 1), ("# c\n", 2), ("x = a", 1),
                           ("x = a\n", 2), ("x = a\n\n# \n", 4), ("x = a;", 1), ("x = a\nreturn", 2),
                           ("x = a\nreturn (", 2), ("x = a\nreturn (a", 2), ("\nreturn a +", 2), ("\nreturn a *", 2),
                           ("\nreturn a[", 2), ("\nreturn cut(a, 1:", 2), ("\nx", 2), ("\nx =", 2),
                           ("return # \\n", 1), ("x = a # c\n# c", 2)):
            self.fails(ScriptError, "line", line, parse_script, text)
            self.fails(ScriptError, "line", line, parse_script, text + " ")
            self.fails(ScriptError, "line", line, clip_of, text, {})

    def test_open_brackets(self):
        for before, inner, behind in (("(", "a", ")"), ("gain(", "a", ",1/2)"), ("cut(", "a", ",0:0)"),
                                      ("insert(a,0,", "a", ")")):
            for many, good in ((19, True), (20, True), (21, False), (30, False)):
                text = "\nreturn " + before * many + inner + behind * many
                if good:
                    self.assertEqual(parse_script(text)[0][0], "return")
                else:
                    self.fails(ScriptError, "line", 2, parse_script, text)
        text = "return " + "(" * 19 + "a[0:1]" + ")" * 19 + "[1:]" * 5
        self.assertEqual(parse_script(text)[0][0], "return")
        self.assertEqual(parse_script("return " + "(" * 19 + "silence(1)" + ")" * 19)[0][2], ("silence", 1))
        self.fails(ScriptError, "line", 1, parse_script, "return " + "(" * 20 + "silence(1)" + ")" * 20)
        self.fails(ScriptError, "line", 1, parse_script, "return " + "(" * 20 + "a[0:1]" + ")" * 20)
        self.assertEqual(parse_script("return " + " + ".join(["(a)"] * 40))[0][0], "return")
        # Brackets that are closed again do not count, and make no room for more.
        for many, before in ((1, "(a) + "), (1, "a[:] + "), (5, "(a)[:] + "), (3, "silence(1) + ")):
            text = "return " + before * many + "(" * 20 + "a" + ")" * 20
            self.assertEqual(parse_script(text + ";")[0][0], "return")
            self.fails(ScriptError, "line", 1, parse_script, text.replace("(a))", "((a)))"))

    def test_tokens_of_a_statement(self):
        for many in range(1, 100):
            self.assertEqual(many_tokens(script_text(parse_script("return a" + "+ a" * (many - 1))))[0], [2 * many])
        self.assertEqual(parse_script("return a" + "+a" * 99)[0][0], "return")
        self.assertEqual(parse_script("x=a[:]" + "*2" * 97 + ";return x")[0][0], "define")
        self.fails(ScriptError, "line", 1, parse_script, "return a" + "+a" * 99 + "+")
        self.fails(ScriptError, "line", 1, parse_script, "return a" + "+a" * 100)
        self.fails(ScriptError, "line", 1, parse_script, "x=a+a" + "*2" * 97 + "[:];return x")
        self.fails(ScriptError, "line", 3, parse_script, "x=a" + "+a" * 98 + ";;\n;y=a\nz=a" + "+a" * 99)
        # Separators do not count, and each statement is counted by itself.
        text = ";" * 300 + "x=a" + "+a" * 98 + ";" * 300 + "return x" + "+x" * 99 + ";" * 300
        self.assertEqual([statement[0] for statement in parse_script(text)], ["define", "return"])
        self.assertEqual(parse_script("return samples(1" + ",1" * 97 + ")")[0][2], ("samples", [1] * 98))
        self.fails(ScriptError, "line", 1, parse_script, "return samples(1" + ",1" * 98 + ")")


class TextTest(Case):

    def check(self, statements):
        text = script_text(statements)
        self.assertIs(type(text), str)
        self.assertEqual(without_lines(parse_script(text)), without_lines(statements))
        return text

    def test_random_scripts(self):
        for seed in range(600):
            source = sequence(seed)
            tree, samples = any_tree(source, 1 + seed % 5)
            loose = loose_text(tree, source)
            counts, deepest = many_tokens(loose)
            self.check([("define", 9, "x", tree), ("return", 7, ("sum", ("name", "x"), tree))])
            if counts and counts[0] < 190 and deepest <= 20:
                statements = parse_script("q = " + loose + "\n;" + "return " + loose)
                self.assertEqual(statements, [("define", 1, "q", tree), ("return", 2, tree)], loose)
                text = self.check(statements)
                for new, old in zip(many_tokens(text)[0], (counts[0] + 2, counts[0] + 1)):
                    self.assertLessEqual(new, old)
                self.assertLessEqual(many_tokens(text)[1], deepest)
                if len(samples) < 10 ** 4:
                    self.assertEqual(samples_of(clip_of("return " + loose, LENGTHS)), samples)

    def test_limits_are_kept(self):
        for text in ("return a" + "+a" * 99, "return a" + "*2" * 99, "return a" + "[:]" * 66,
                     "return " + "(" * 20 + "a+a" + ")*2" * 20, "return " + "gain(" * 20 + "a" + ",1/2)" * 20,
                     "return " + "a+(" * 20 + "a+a" + ")" * 20, "return " + "(" * 20 + "a*2" + ")[:]" * 20,
                     "return samples(1" + ",1" * 97 + ")", "return " + "insert(a,1," * 20 + "a" + ")" * 20,
                     "x = a\n" * 800 + "return x"):
            self.check(parse_script(text))

    def test_longer_texts(self):
        text = "x=a\n" * 1996 + "return x"
        self.assertGreater(len(script_text(parse_script(text))), 8000)

    def test_arguments_are_not_changed(self):
        statements = parse_script("x = samples(1, -2) + a; return x[1:]")
        before = copy.deepcopy(statements)
        script_text(statements=statements)
        self.assertEqual(statements, before)


class ClipTest(Case):

    def test_definitions(self):
        for text, samples in (("a = bc; return a", SOUNDS["bc"]),
                              ("a = a[1:3]; a = a + a; return a", [-1, 4, -1, 4]),
                              ("x = a[:2]\ny = x * 2\nx = bc\nreturn y + x[:1]", [3, -1, 3, -1, 2]),
                              ("long = silence(2); return long", [0, 0])):
            self.assertEqual(samples_of(clip_of(text, LENGTHS)), samples)
        self.assertEqual(clip_of(text="return q", lengths={"q": 0}), Clip.silence(0))
        lengths = dict(LENGTHS)
        clip_of("q = a; return q", lengths)
        self.assertEqual(lengths, LENGTHS)

    def test_pieces_are_those_of_clips(self):
        self.assertEqual(clip_of("return a[:2] + a[2:5] + silence(1) + silence(2)", LENGTHS).pieces(),
                         [("part", "a", 0, 5, ()), ("silence", 3)])
        self.assertEqual(clip_of("return insert(a, 3, bc[0:0])", LENGTHS), Clip.part("a", 0, 6))
        self.assertEqual(clip_of("return replace(a, 2:2, a[2:2])", LENGTHS), Clip.part("a", 0, 6))
        self.assertEqual(clip_of("return cut(a * 3, 6:12)", LENGTHS).pieces(), [("part", "a", 0, 6, ())] * 2)

    def test_errors_in_the_order_of_evaluation(self):
        for text, kind, field, value in (
                ("return x", UnknownName, "name", "x"),
                ("return x + y", UnknownName, "name", "x"),
                ("return a + y * 2", UnknownName, "name", "y"),
                ("return x[5:1]", UnknownName, "name", "x"),
                ("return x + a[5:1]", UnknownName, "name", "x"),
                ("return a[5:1] + x", InvalidPlace, "value", 1),
                ("return insert(a, 9, x)", UnknownName, "name", "x"),
                ("return insert(a[8:], 9, x)", InvalidPlace, "value", 8),
                ("return replace(a, 9:8, x)", UnknownName, "name", "x"),
                ("x = a; y = q; return a", UnknownName, "name", "q"),
                ("x = a[7:]; return q", InvalidPlace, "value", 7),
                ("x = x; return a", UnknownName, "name", "x"),
                ("return q; ", UnknownName, "name", "q"),
                ("return a[7:8]", InvalidPlace, "value", 7),
                ("return a[7:5]", InvalidPlace, "value", 7),
                ("return a[2:7]", InvalidPlace, "value", 7),
                ("return a[3:2]", InvalidPlace, "value", 2),
                ("return a[:7]", InvalidPlace, "value", 7),
                ("return a[7:]", InvalidPlace, "value", 7),
                ("return insert(a, 7, bc)", InvalidPlace, "value", 7),
                ("return replace(a, 7:8, bc)", InvalidPlace, "value", 7),
                ("return replace(a, 2:8, bc)", InvalidPlace, "value", 8),
                ("return replace(a, 3:2, bc)", InvalidPlace, "value", 2),
                ("return cut(a, 7:8)", InvalidPlace, "value", 7),
                ("return cut(a, 2:8)", InvalidPlace, "value", 8),
                ("return cut(a, 3:2)", InvalidPlace, "value", 2),
                ("return gain(a, 1001/0)", InvalidNumber, "value", 1001),
                ("return gain(a, -1001/0)", InvalidNumber, "value", -1001),
                ("return gain(a, 1/0)", InvalidNumber, "value", 0),
                ("return gain(a[9:], 1/0)", InvalidPlace, "value", 9),
                ("x = gain(a, 1/0); return q", InvalidNumber, "value", 0),
                (f"return a * {10 ** 29} * {10 ** 29}", LimitExceeded, "limit", 10 ** 40)):
            self.fails(kind, field, value, clip_of, text, LENGTHS)
            # A script that is none comes before all of them.
            self.fails(ScriptError, "line", 1, clip_of, text + ";;.", LENGTHS)
        self.fails(UnknownName, "name", "a", clip_of, "return a", {})

    def test_errors_of_the_steps(self):
        long = "l = q * 99999999999; "
        lengths = {"a": 1, "q": 10 ** 29}
        many = "m = a" + "+a" * 98 + "; n = m + a; "
        self.assertEqual(clip_of(long + "return insert(l, 5, l[:5])", lengths).length, 99999999999 * 10 ** 29 + 5)
        for text, limit in (
                (long + "return insert(l, 5, q * 1 + l)", 10 ** 40),
                (long + "return replace(l, 5:6, l + q)", 10 ** 40),
                (long + "return replace(l, 0:6, l) + a", 10 ** 40),
                (many + "return insert(n + n, 1, a)", 200),
                (many + "return replace(n + n, 1:1, a)", 200),
                (many + "k = n * 4; return cut(k, 101:102)", 200),
                (many + "return insert(n * 3, 150, a)", 200),
                # The stretch behind has too many pieces, but the sum before it is too long already.
                (long + many + "return insert(a + n * 5 + a, 2, l + q[1:])", 10 ** 40),
                (long + many + "return insert(n * 5 + a, 101, l)", 200)):
            self.fails(LimitExceeded, "limit", limit, clip_of, text, lengths)
        for text in (many + "return replace(n + n, 5:6, a)", many + "k = n * 2; return cut(k, 0:99)"):
            self.assertLessEqual(len(clip_of(text, lengths).pieces()), 200)


if __name__ == "__main__":
    unittest.main()
