"""Consoles: commands on a studio."""

from framejoins.budgets import frame_sizes, least_delay
from framejoins.checks import check_stretch, is_name
from framejoins.errors import InvalidCommand
from framejoins.files import stream_text

DIGITS = "0123456789"
NUMBER_LIMIT = 30
NOTHING = "-"
DONE = "ok"

# What follows the word of each command.
FORMS = {
    "names": (),
    "drop": ("name",),
    "undo": (),
    "redo": (),
    "length": ("name",),
    "size": ("name",),
    "frames": ("name",),
    "samples": ("name", "number", "number"),
    "delay": ("name", "number"),
    "file": ("name",),
}


class Console:
    """A studio that takes commands."""

    def __init__(self, studio):
        self.studio = studio

    def __len__(self):
        return len(self.studio)

    def execute(self, command):
        """Run a command and return what it answers."""
        if not isinstance(command, str):
            raise InvalidCommand(command)
        words = command.split(" ")
        if words[0] == "edit":
            return self.run_edit(command)
        if words[0] not in FORMS or not has_form(words[1:], FORMS[words[0]]):
            raise InvalidCommand(command)
        if words[0] in ("names", "undo", "redo", "drop"):
            return self.run_call(words)
        numbers = [int(word) for word in words[2:]]
        return answer_of(words[0], self.studio.stream(words[1]), numbers)

    def run_edit(self, command):
        """Run an edit; behind the second blank everything belongs to the script."""
        word, blank, rest = command.partition(" ")
        name, blank, script = rest.partition(" ")
        if not is_name(name) or blank == "":
            raise InvalidCommand(command)
        kept, renewed = self.studio.edit(name, script)
        return f"{kept} {renewed}"

    def run_call(self, words):
        """Run a command on the studio itself."""
        if words[0] == "names":
            return listed(self.studio.names())
        if words[0] == "drop":
            self.studio.drop(words[1])
        elif words[0] == "undo":
            self.studio.undo()
        else:
            self.studio.redo()
        return DONE


def has_form(words, form):
    """Return whether words are names and numbers as a form tells."""
    if len(words) != len(form):
        return False
    for word, kind in zip(words, form):
        if not (is_name(word) if kind == "name" else is_number(word)):
            return False
    return True


def is_number(word):
    """Return whether a word is an integer of 1 to 30 digits without leading zeros."""
    if not 1 <= len(word) <= NUMBER_LIMIT or word.strip(DIGITS) != "":
        return False
    return word == "0" or word[0] != "0"


def answer_of(word, stream, numbers):
    """Return what a command that asks for something of a stream answers."""
    if word == "length":
        return str(stream.length)
    if word == "size":
        return str(stream.size())
    if word == "frames":
        return str(stream.frames)
    if word == "samples":
        start, end = numbers
        check_stretch(start, end, stream.length)
        return listed([str(value) for value in stream.sound()[start:end]])
    if word == "delay":
        return str(least_delay(frame_sizes(stream), numbers[0]))
    return stream_text(stream).replace("\n", "; ")


def listed(words):
    """Return words separated by blanks, or a sign that there are none."""
    return " ".join(words) if words else NOTHING
