"""Streams as texts with check numbers."""

from framejoins.errors import ParseError
from framejoins.streams import Stream, is_record

SIGNS = "0123456789abcdefghijklmnopqrstuvwxyz -"
DIGITS = "0123456789"
DIGITS_LIMIT = 4000
CHECK_START = 1
CHECK_FACTOR = 41
CHECK_MODULUS = 1000003
NO_BITS = "-"
MARK = " #"


def stream_text(stream):
    """Return a text with a line for each record."""
    lines = []
    check = CHECK_START
    for record in stream.records:
        words = " ".join(words_of(record))
        check = check_behind(words, check)
        lines.append(f"{words}{MARK}{check}")
    return "\n".join(lines)


def words_of(record):
    """Return the words of a record."""
    if record[0] == "state":
        coarse, other = record[1]
        return ["state"] + [str(number) for number in coarse + other]
    length, joint, levels, step, mark, bits = record[1:]
    numbers = (length, joint[0], joint[1], levels, step, mark)
    return ["frame"] + [str(number) for number in numbers] + [bits if bits else NO_BITS]


def check_behind(words, check):
    """Return the check number behind the words of a line; they contain no other signs than those of lines."""
    for sign in words:
        check = (check * CHECK_FACTOR + SIGNS.find(sign) + 1) % CHECK_MODULUS
    return check


def recovered_records(text):
    """Return the records of the longest beginning that consists of valid lines."""
    return valid_records(text)[0]


def parse_stream(text):
    """Return the stream of a text."""
    records, wrong = valid_records(text)
    if wrong is not None:
        raise ParseError(wrong)
    return Stream(records)


def valid_records(text):
    """Return the records of the lines before the first one that is not valid, and that line, or None."""
    if not isinstance(text, str):
        raise ParseError(None)
    records = []
    check = CHECK_START
    lines = text.split("\n") if text else []
    for at, line in enumerate(lines):
        words, mark, number = line.rpartition(MARK)
        record = record_of(words.split(" "))
        if record is None:
            return records, at + 1
        check = check_behind(words, check)
        if number != str(check):
            return records, at + 1
        records.append(record)
    return records, None


def record_of(words):
    """Return the record that words denote, or None."""
    record = None
    numbers = [number_of(word) for word in words[1:7]]
    if words[0] == "state" and len(words) == 5:
        record = ("state", (tuple(numbers[:2]), tuple(numbers[2:])))
    elif words[0] == "frame" and len(words) == 8 and words[7] != "":
        length, width, shape, levels, step, mark = numbers
        bits = "" if words[7] == NO_BITS else words[7]
        record = ("frame", length, (width, shape), levels, step, mark, bits)
    return record if is_record(record) else None


def number_of(word):
    """Return the number that is written as this word, or None."""
    if not 1 <= len(word) <= DIGITS_LIMIT or word.strip(DIGITS) != "":
        return None
    return int(word) if word == "0" or word[0] != "0" else None
