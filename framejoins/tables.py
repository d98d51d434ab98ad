"""The tables, and the bits and marks of numbers."""

from framejoins.checks import BLOCK_LIMIT, check_block, check_within, is_integer, is_within
from framejoins.errors import InvalidTables

START = ((2, 1), (2, 1))
COUNT_LIMIT = 15
HALVED_COUNT = 8
LONG_FORM = 20
MARK_FACTOR = 31
MARK_MODULUS = 9973


def is_table(value):
    """Return whether the value is a table."""
    if not isinstance(value, tuple) or len(value) != 2:
        return False
    total, count = value
    return is_integer(total) and total >= 0 and is_within(count, 1, COUNT_LIMIT)


def is_tables(value):
    """Return whether the value is tables."""
    return isinstance(value, tuple) and len(value) == 2 and is_table(value[0]) and is_table(value[1])


def parameter(table):
    """Return the parameter of a table."""
    if not is_table(table):
        raise InvalidTables(table)
    total, count = table
    # The total divided by the count, rounded up, is at most 2 to the power k exactly if
    # one less than it has at most k binary digits; this is fast for long totals, too.
    least = (total + count - 1) // count
    return (max(least, 1) - 1).bit_length()


def table_behind(table, code):
    """Return the table as it is behind a number with this code number."""
    total, count = table[0] + code, table[1] + 1
    if count > COUNT_LIMIT:
        return total // 2, HALVED_COUNT
    return total, count


def code_number(number):
    """Return the code number of a number."""
    return 2 * number if number >= 0 else -2 * number - 1


def number_with(code):
    """Return the number with this code number."""
    return code // 2 if code % 2 == 0 else -(code // 2) - 1


def code_bits(code, k):
    """Return the bits of a code number for this parameter."""
    digits = f"{code:b}"
    ones = code >> k
    if ones < LONG_FORM:
        padded = digits.zfill(k)
        return "1" * ones + "0" + padded[len(padded) - k:]
    return "1" * (LONG_FORM + len(digits) - 1) + "0" + digits


def write_numbers(numbers, coarse, tables):
    """Return the bits of numbers, and the tables behind them."""
    check_block(numbers, 0)
    check_coding(len(numbers), coarse, tables)
    now = list(tables)
    words = []
    for at, number in enumerate(numbers):
        which = 0 if at < coarse else 1
        code = code_number(number)
        words.append(code_bits(code, parameter(now[which])))
        now[which] = table_behind(now[which], code)
    return "".join(words), tuple(now)


def read_numbers(bits, length, coarse, tables):
    """Return the numbers and the tables behind them, or None for other bits."""
    check_within(length, 0, BLOCK_LIMIT)
    check_coding(length, coarse, tables)
    if not isinstance(bits, str) or bits.strip("01") != "":
        return None
    now = list(tables)
    numbers = []
    place = 0
    for at in range(length):
        which = 0 if at < coarse else 1
        found = read_code(bits, place, parameter(now[which]))
        if found is None:
            return None
        code, place = found
        numbers.append(number_with(code))
        now[which] = table_behind(now[which], code)
    if place != len(bits):
        return None
    return numbers, tuple(now)


def check_coding(length, coarse, tables):
    """Raise an error for a wrong count of coarse numbers, or for wrong tables."""
    check_within(coarse, 0, length)
    if not is_tables(tables):
        raise InvalidTables(tables)


def read_code(bits, place, k):
    """Return the code number whose bits begin at a place, and the place behind them, or None."""
    zero = bits.find("0", place)
    if zero < 0:
        return None
    ones = zero - place
    many = k if ones < LONG_FORM else ones - LONG_FORM + 1
    end = zero + 1 + many
    if end > len(bits):
        return None
    digits = bits[zero + 1:end]
    # The zero ahead stands for the digits that a parameter of 0 leaves out.
    low = int("0" + digits, 2)
    if ones < LONG_FORM:
        return (ones << k) + low, end
    if digits[0] == "0" or low >> k < LONG_FORM:
        return None
    return low, end


def mark_of(numbers):
    """Return the mark of numbers."""
    check_block(numbers, 0)
    mark = 1
    for number in numbers:
        mark = (mark * MARK_FACTOR + code_number(number)) % MARK_MODULUS
    return mark
