"""Studios: streams by names, with undo."""

from framejoins.checks import check_name, is_integer
from framejoins.edits import Edit
from framejoins.errors import InvalidNumber, InvalidPlan, InvalidStream, LimitExceeded, NothingToUndo, UnknownName
from framejoins.scripts import clip_of
from framejoins.streams import Stream

NAMES_LIMIT = 20
CALL_LENGTHS = {"put": 3, "drop": 2, "edit": 3, "undo": 2, "redo": 2}


class Studio:
    """Streams by names, and the operations that made them."""

    def __init__(self):
        # The operations, with the cancelled ones behind the others, and the streams before and behind each of them.
        self.operations = []
        self.states = [{}]
        self.done = 0

    def __eq__(self, other):
        if not isinstance(other, Studio):
            return False
        return (self.states[self.done] == other.states[other.done]
                and self.operations[:self.done] == other.operations[:other.done])

    def __len__(self):
        return len(self.states[self.done])

    def put(self, name, stream):
        """Store a stream."""
        check_name(name)
        if not isinstance(stream, Stream):
            raise InvalidStream(None)
        self.store(("put", name), name, stream)

    def drop(self, name):
        """Remove a stream."""
        self.check_stored(name)
        streams = self.current()
        del streams[name]
        self.go_on(("drop", name), streams)

    def edit(self, name, script):
        """Store the stream of an edit; return how many old units stay, and how many frames are coded anew."""
        check_name(name)
        streams = self.current()
        clip = clip_of(script, {other: streams[other].length for other in streams})
        edit = Edit(streams, clip)
        self.store(("edit", name, script), name, edit.stream())
        return edit.kept(), edit.renewed()

    def stream(self, name):
        """Return a stream."""
        self.check_stored(name)
        return self.states[self.done][name]

    def names(self):
        """Return the ascending list of names."""
        return sorted(self.states[self.done])

    def undo(self, count=1):
        """Cancel the latest operations."""
        check_count(count, self.done)
        self.done -= count

    def redo(self, count=1):
        """Perform again the operations that were cancelled last."""
        check_count(count, len(self.operations) - self.done)
        self.done += count

    def history(self):
        """Return the list of the current operations."""
        return self.operations[:self.done]

    def perform(self, calls):
        """Perform calls, all of them or none, and return the list of their results."""
        check_calls(calls)
        trial = self.clone()
        results = [trial.called(call) for call in calls]
        self.operations, self.states, self.done = trial.operations, trial.states, trial.done
        return results

    def clone(self):
        """Return an independent copy."""
        other = Studio()
        other.operations = list(self.operations)
        # The streams of a state are never changed, so both studios may hold them.
        other.states = list(self.states)
        other.done = self.done
        return other

    def called(self, call):
        """Return the result of a call that is written as a tuple."""
        word = call[0]
        if word == "put":
            return self.put(call[1], call[2])
        if word == "drop":
            return self.drop(call[1])
        if word == "edit":
            return self.edit(call[1], call[2])
        return self.undo(call[1]) if word == "undo" else self.redo(call[1])

    def current(self):
        """Return a new dict of the streams by their names."""
        return dict(self.states[self.done])

    def check_stored(self, name):
        """Raise UnknownName for a value that is not a name of a stream."""
        check_name(name)
        if name not in self.states[self.done]:
            raise UnknownName(name)

    def store(self, operation, name, stream):
        """Go on to the state with one more stream, or with another one in its place."""
        streams = self.current()
        streams[name] = stream
        if len(streams) > NAMES_LIMIT:
            raise LimitExceeded(NAMES_LIMIT)
        self.go_on(operation, streams)

    def go_on(self, operation, streams):
        """Go on to a state behind an operation, instead of the cancelled ones."""
        del self.operations[self.done:]
        self.operations.append(operation)
        self.done += 1
        del self.states[self.done:]
        self.states.append(streams)


def check_count(count, many):
    """Raise an error for a count that is none, or is greater than the number of operations."""
    if not is_integer(count) or count < 1:
        raise InvalidNumber(count)
    if count > many:
        raise NothingToUndo(count)


def check_calls(calls):
    """Raise InvalidPlan for a value that is not a list or tuple of calls."""
    if not isinstance(calls, (list, tuple)):
        raise InvalidPlan(None)
    for index, call in enumerate(calls):
        if not is_call(call):
            raise InvalidPlan(index)


def is_call(value):
    """Return whether the value is a tuple with the word of a call and as many items."""
    if not isinstance(value, tuple) or not value or not isinstance(value[0], str):
        return False
    return CALL_LENGTHS.get(value[0]) == len(value)
