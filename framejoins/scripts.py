"""Scripts: texts that describe clips."""

from framejoins.checks import check_stretch
from framejoins.clips import Clip
from framejoins.errors import ScriptError, UnknownName
from framejoins.tokens import Reader

TEXT_LIMIT = 8000


def parse_script(text):
    """Return the statements of a script."""
    if not isinstance(text, str) or len(text) > TEXT_LIMIT:
        raise ScriptError(None)
    reader = Reader(text)
    reader.pass_separators()
    statements = [read_statement(reader)]
    while statements[-1][0] == "define":
        statements.append(read_statement(reader))
    if reader.word() != "":
        reader.refuse()
    return statements


def read_statement(reader):
    """Return a statement, and go on behind the separators that follow it."""
    line = reader.line_here()
    if reader.word() == "return":
        reader.take()
        statement = ("return", line, read_sum(reader))
    else:
        name = reader.take_name()
        reader.take_word("=")
        statement = ("define", line, name, read_sum(reader))
    reader.end_statement()
    return statement


def read_sum(reader):
    """Return an expression."""
    tree = read_product(reader)
    while reader.word() == "+":
        reader.take()
        tree = ("sum", tree, read_product(reader))
    return tree


def read_product(reader):
    """Return an expression without a sum outside of brackets."""
    tree = read_stretch(reader)
    while reader.word() == "*":
        reader.take()
        tree = ("times", tree, reader.take_number())
    return tree


def read_stretch(reader):
    """Return an expression without a sum or a product outside of brackets."""
    tree = read_operand(reader)
    while reader.word() == "[":
        reader.take()
        start = None if reader.word() == ":" else reader.take_number()
        reader.take_word(":")
        end = None if reader.word() == "]" else reader.take_number()
        reader.take_word("]")
        tree = ("stretch", tree, start, end)
    return tree


def read_operand(reader):
    """Return a name, a call or an expression in brackets."""
    word = reader.word()
    if word == "(":
        reader.take()
        tree = read_sum(reader)
    elif word in CALLS:
        reader.take()
        reader.take_word("(")
        read = CALLS[word]
        tree = read(reader)
    else:
        return ("name", reader.take_name())
    reader.take_word(")")
    return tree


def read_silence(reader):
    """Return a silence, from its number on."""
    return ("silence", reader.take_number())


def read_samples(reader):
    """Return samples, from the first one on."""
    samples = [reader.take_signed_number()]
    while reader.word() == ",":
        reader.take()
        samples.append(reader.take_signed_number())
    return ("samples", samples)


def read_gain(reader):
    """Return a gain, from its operand on."""
    tree = read_sum(reader)
    reader.take_word(",")
    top = reader.take_signed_number()
    reader.take_word("/")
    return ("gain", tree, top, reader.take_number())


def read_insert(reader):
    """Return an insertion, from its first operand on."""
    tree = read_sum(reader)
    reader.take_word(",")
    place = reader.take_number()
    reader.take_word(",")
    return ("insert", tree, place, read_sum(reader))


def read_replace(reader):
    """Return a replacement, from its first operand on."""
    tree, start, end = read_bounds(reader)
    reader.take_word(",")
    return ("replace", tree, start, end, read_sum(reader))


def read_cut(reader):
    """Return a cut, from its operand on."""
    tree, start, end = read_bounds(reader)
    return ("cut", tree, start, end)


def read_bounds(reader):
    """Return an operand and the limits of the stretch that is named behind it."""
    tree = read_sum(reader)
    reader.take_word(",")
    start = reader.take_number()
    reader.take_word(":")
    return tree, start, reader.take_number()


CALLS = {
    "silence": read_silence,
    "samples": read_samples,
    "gain": read_gain,
    "insert": read_insert,
    "replace": read_replace,
    "cut": read_cut,
}


def script_text(statements):
    """Return a text of statements, with a line for each of them."""
    lines = []
    for statement in statements:
        tree = tree_text(statement[-1])
        lines.append(f"return {tree}" if statement[0] == "return" else f"{statement[2]} = {tree}")
    return "\n".join(lines)


def tree_text(tree):
    """Return a text of an expression, with no more brackets than it needs."""
    kind = tree[0]
    if kind == "name":
        return tree[1]
    if kind == "sum":
        return tree_text(tree[1]) + " + " + bracketed(tree[2], ("sum",))
    if kind == "times":
        return bracketed(tree[1], ("sum",)) + f" * {tree[2]}"
    if kind == "stretch":
        start, end = ["" if place is None else str(place) for place in tree[2:]]
        return bracketed(tree[1], ("sum", "times")) + f"[{start}:{end}]"
    return f"{kind}({call_text(tree)})"


def bracketed(tree, weaker):
    """Return a text of an operand, in brackets if it is one of the weaker kinds."""
    text = tree_text(tree)
    return f"({text})" if tree[0] in weaker else text


def call_text(tree):
    """Return what stands between the brackets of a call."""
    kind = tree[0]
    if kind == "silence":
        return str(tree[1])
    if kind == "samples":
        return ", ".join([str(value) for value in tree[1]])
    text = tree_text(tree[1])
    if kind == "gain":
        return f"{text}, {tree[2]}/{tree[3]}"
    if kind == "insert":
        return f"{text}, {tree[2]}, {tree_text(tree[3])}"
    if kind == "replace":
        return f"{text}, {tree[2]}:{tree[3]}, {tree_text(tree[4])}"
    return f"{text}, {tree[2]}:{tree[3]}"


def clip_of(text, lengths):
    """Return the clip that a script describes."""
    clips = {}
    for statement in parse_script(text):
        clip = clip_of_tree(statement[-1], clips, lengths)
        if statement[0] == "return":
            return clip
        clips[statement[2]] = clip
    return None


def clip_of_tree(tree, clips, lengths):
    """Return the clip of an expression, with the clips of the names that are defined before it."""
    kind = tree[0]
    if kind == "name":
        return clip_of_name(tree[1], clips, lengths)
    if kind == "silence":
        return Clip.silence(tree[1])
    if kind == "samples":
        return Clip.samples(tree[1])
    first = clip_of_tree(tree[1], clips, lengths)
    if kind == "times":
        return first * tree[2]
    if kind == "gain":
        return first.gained(tree[2], tree[3])
    if kind == "stretch":
        start, end = tree[2:]
        return first.cut(0 if start is None else start, first.length if end is None else end)
    if kind == "cut":
        return replaced_stretch(first, tree[2], tree[3], None)
    second = clip_of_tree(tree[-1], clips, lengths)
    if kind == "sum":
        return first + second
    if kind == "insert":
        return replaced_stretch(first, tree[2], tree[2], second)
    return replaced_stretch(first, tree[2], tree[3], second)


def clip_of_name(name, clips, lengths):
    """Return the clip that was defined last by this name, or the sound of the stream with this name."""
    if name in clips:
        return clips[name]
    if name not in lengths:
        raise UnknownName(name)
    return Clip.part(name, 0, lengths[name])


def replaced_stretch(clip, start, end, other):
    """Return a clip with another one, if there is any, in the place of a stretch."""
    check_stretch(start, end, clip.length)
    result = clip.cut(0, start)
    if other is not None:
        result = result + other
    return result + clip.cut(end, clip.length)
