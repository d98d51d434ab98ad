import itertools
import unittest

from framejoins.errors import InvalidNumber, InvalidSound, InvalidTables
from framejoins.tables import START, is_tables, mark_of, parameter, read_numbers, write_numbers
from helpers import LARGE, NO_INTEGERS, Case, integers
from plain import plain_bits, plain_parameter, plainly_written

NO_TABLES = NO_INTEGERS + (0, 5, (2, 1), [(2, 1), (2, 1)], ([2, 1], [2, 1]), ((2, 1),), ((2, 1), (2, 1), (2, 1)),
                           ((2, 1), None), (None, (2, 1)), ((2, 1), (2, 0)), ((2, 16), (2, 1)), ((-1, 1), (2, 1)))
NO_LISTS = (None, True, 0, "12", b"12", (1, 2), (), {}, {1: 2}, {1, 2}, range(3), [0] * 65)
EDGES = (((0, 1), (0, 1)), ((0, 15), (1, 15)), ((15, 15), (16, 15)), ((700, 9), (3, 14)), ((10 ** 60 - 1, 1), (0, 15)))


class TablesTest(Case):

    def test_example(self):
        self.assertEqual(
            [parameter((5, 1)), write_numbers([3, -1], 1, START), read_numbers('11100011', 2, 1, START),
             mark_of([3, -1])],
            [3, ('1110001', ((8, 2), (3, 2))), None, 1148])

    def test_start(self):
        self.assertEqual(START, ((2, 1), (2, 1)))
        self.assertIs(is_tables(START), True)

    def test_tables(self):
        for total in (0, 1, 2, 1000, LARGE, 10 ** 3999):
            for count in range(1, 16):
                self.assertIs(is_tables(((total, count), (2, 1))), True)
                self.assertIs(is_tables(((2, 1), (total, count))), True)
        self.assertIs(is_tables(value=START), True)

    def test_no_tables(self):
        for value in NO_TABLES + (object(), int, "ab", b"ab", {(2, 1), (3, 1)}, {(2, 1): 1, (3, 1): 1}):
            self.assertIs(is_tables(value), False, value)

    def test_wrong_table_in_each_place(self):
        wrong = [(2, 0), (2, 16), (2, -1), (-1, 1), (-LARGE, 1), (2, LARGE), [2, 1], (2,), (2, 1, 1), ((2, 1),)]
        for item in NO_INTEGERS:
            wrong += [item, (item, 1), (2, item), (0, item)]
        for table in wrong:
            self.assertIs(is_tables((table, (2, 1))), False, table)
            self.assertIs(is_tables(((2, 1), table)), False, table)
            self.assertIs(is_tables((table, table)), False, table)
            self.fails(InvalidTables, "value", table, parameter, table)

    def test_parameter(self):
        for table, k in (((0, 1), 0), ((1, 1), 0), ((2, 1), 1), ((3, 1), 2), ((4, 1), 2), ((5, 1), 3), ((8, 1), 3),
                         ((9, 1), 4), ((0, 15), 0), ((15, 15), 0), ((16, 15), 1), ((30, 15), 1), ((31, 15), 2)):
            self.assertEqual(parameter(table), k, table)
        self.assertEqual(parameter(table=(3, 1)), 2)

    def test_parameter_of_all_counts(self):
        for count in range(1, 16):
            for total in list(range(300)) + [LARGE, 10 ** 59, count * 2 ** 100, count * 2 ** 100 + 1]:
                self.assertEqual(parameter((total, count)), plain_parameter((total, count)), (total, count))

    def test_parameter_of_no_table(self):
        for value in NO_TABLES:
            if value != (2, 1):
                self.fails(InvalidTables, "value", value, parameter, value)
        self.fails(InvalidTables, "value", START, parameter, START)


class WritingTest(Case):

    def check(self, numbers, coarse, tables):
        before = list(numbers)
        written = write_numbers(numbers, coarse, tables)
        self.assertEqual(written, plainly_written(numbers, coarse, tables))
        self.assertEqual((type(written), type(written[0])), (tuple, str))
        self.assertIs(is_tables(written[1]), True)
        back = read_numbers(written[0], len(numbers), coarse, tables)
        self.assertEqual(back, (before, written[1]))
        self.assertEqual((type(back), type(back[0])), (tuple, list))
        self.assertEqual(numbers, before)

    def test_by_hand(self):
        zeros = ((0, 1), (0, 1))
        self.assertEqual(write_numbers([0], 0, START), ("00", ((2, 1), (2, 2))))
        self.assertEqual(write_numbers([0], 1, START), ("00", ((2, 2), (2, 1))))
        self.assertEqual(write_numbers([-2], 1, START), ("101", ((5, 2), (2, 1))))
        self.assertEqual(write_numbers([0], 1, zeros), ("0", ((0, 2), (0, 1))))
        self.assertEqual(write_numbers([0, 1, -1], 1, zeros), ("011010", ((0, 2), (3, 3))))
        self.assertEqual(write_numbers([5], 0, ((0, 1), (9, 2))), ("10010", ((0, 1), (19, 3))))

    def test_without_numbers(self):
        for tables in EDGES + (START,):
            self.assertEqual(write_numbers([], 0, tables), ("", tables))
            self.assertEqual(read_numbers("", 0, 0, tables), ([], tables))
            self.assertIsNone(read_numbers("0", 0, 0, tables))

    def test_long_form(self):
        zeros = ((0, 1), (0, 1))
        self.assertEqual(write_numbers([-10], 1, zeros)[0], "1" * 19 + "0")
        self.assertEqual(write_numbers([10], 1, zeros)[0], "1" * 20 + "1111" + "0" + "10100")
        self.assertEqual(write_numbers([-20], 1, START)[0], "1" * 19 + "0" + "1")
        self.assertEqual(write_numbers([20], 1, START)[0], "1" * 20 + "11111" + "0" + "101000")
        self.assertEqual(write_numbers([64], 0, zeros)[0], "1" * 20 + "1111111" + "0" + "10000000")
        for number in range(-700, 701):
            for tables in EDGES + (START, ((40, 3), (100, 7))):
                self.check([number], 1, tables)
                self.check([number], 0, tables)

    def test_change_at_the_count_16(self):
        self.assertEqual(write_numbers([-4], 1, ((100, 14), (2, 1)))[1], ((107, 15), (2, 1)))
        self.assertEqual(write_numbers([-4], 1, ((100, 15), (2, 1)))[1], ((53, 8), (2, 1)))
        self.assertEqual(write_numbers([-4], 0, ((2, 1), (101, 15)))[1], ((2, 1), (54, 8)))
        self.assertEqual(write_numbers([0] * 14, 14, START)[1], ((2, 15), (2, 1)))
        self.assertEqual(write_numbers([0] * 15, 15, START)[1], ((1, 8), (2, 1)))
        self.assertEqual(write_numbers([0] * 15 + [1] * 9, 15, START)[1], ((1, 8), (20, 10)))
        for many in range(65):
            self.check([3] * many, many, START)
            self.check([-2] * many, 0, START)
            self.check([9, -1] * (many // 2), many // 3, ((5, 13), (6, 15)))

    def test_totals_of_few_and_many_digits(self):
        for seed, size in ((1, 1), (2, 8), (3, 300), (4, 10 ** 12), (5, LARGE)):
            for many in (1, 2, 5, 17, 40, 64):
                numbers = integers(seed * 100 + many, many, size)
                for coarse in sorted({0, 1, many // 2, many - 1, many}):
                    for tables in EDGES + (START,):
                        self.check(numbers, coarse, tables)

    def test_totals_of_thousands_of_digits(self):
        for tables in (((10 ** 3999, 1), (10 ** 3998, 15)), ((10 ** 2000, 15), (7, 2))):
            self.check([5, -5, 0, LARGE], 2, tables)
        self.check([10 ** 3999, -(10 ** 3999), 0, 3], 2, START)

    def test_by_name(self):
        self.assertEqual(write_numbers(tables=START, coarse=1, numbers=[3, -1]), ("1110001", ((8, 2), (3, 2))))
        self.assertEqual(read_numbers(tables=START, coarse=1, length=2, bits="1110001"),
                         ([3, -1], ((8, 2), (3, 2))))
        self.assertEqual(mark_of(numbers=[3, -1]), 1148)

    def test_results_are_new(self):
        first = read_numbers("1110001", 2, 1, START)[0]
        first.append(0)
        self.assertEqual(read_numbers("1110001", 2, 1, START), ([3, -1], ((8, 2), (3, 2))))
        self.assertEqual(START, ((2, 1), (2, 1)))


class ReadingTest(Case):

    def exact(self, bits, length, coarse, tables):
        """What is read is None, or has exactly these bits."""
        found = read_numbers(bits, length, coarse, tables)
        if found is not None:
            self.assertEqual(len(found[0]), length)
            self.assertEqual(plainly_written(found[0], coarse, tables), (bits, found[1]), bits)
        return found

    def test_all_short_strings(self):
        for tables in (START, ((0, 1), (9, 1)), ((3, 15), (0, 15))):
            for coarse in (0, 1, 2):
                written = {}
                # The greatest code number with nine bits at the parameter 4 is below 80.
                for numbers in itertools.product(range(-41, 42), repeat=2):
                    bits, behind = plainly_written(list(numbers), coarse, tables)
                    written[bits] = (list(numbers), behind)
                for length in range(10):
                    for word in itertools.product("01", repeat=length):
                        bits = "".join(word)
                        self.assertEqual(read_numbers(bits, 2, coarse, tables), written.get(bits), bits)

    def test_changed_bits(self):
        rows = (([3, -1], 1, START), ([0, 50, -3, 7], 2, START), ([10, -10, 300], 3, ((0, 1), (0, 1))),
                ([LARGE, 4, -2], 0, START), (integers(5, 20, 40), 7, START))
        for numbers, coarse, tables in rows:
            bits = write_numbers(numbers, coarse, tables)[0]
            same = (numbers, plainly_written(numbers, coarse, tables)[1])
            many = len(numbers)
            for at in range(len(bits)):
                other = "1" if bits[at] == "0" else "0"
                turned = bits[:at] + other + bits[at + 1:]
                self.assertNotEqual(self.exact(turned, many, coarse, tables), same)
                self.exact(bits[:at] + bits[at + 1:], many, coarse, tables)
                self.exact(bits[:at] + other + bits[at:], many, coarse, tables)
                self.assertIsNone(read_numbers(bits[:at], many, coarse, tables))
                for sign in "2 -+_.a\n\t":
                    self.assertIsNone(read_numbers(bits[:at] + sign + bits[at + 1:], many, coarse, tables))
                    self.assertIsNone(read_numbers(bits[:at] + sign + bits[at:], many, coarse, tables))
            for more in ("0", "1", "00", "10", " ", "\n", "x", bits):
                self.assertIsNone(read_numbers(bits + more, many, coarse, tables))
            self.assertEqual(read_numbers(bits, many, coarse, tables), same)

    def test_other_lengths(self):
        bits = write_numbers([4, -9, 30], 1, START)[0]
        for length in (0, 1, 2, 4, 64):
            self.assertIsNone(read_numbers(bits, length, min(length, 1), START))
        self.assertIsNone(read_numbers("", 1, 1, START))

    def test_long_form_for_a_short_one(self):
        zeros = ((0, 1), (0, 1))
        for u in range(1, 20):
            digits = bin(u)[2:]
            bits = "1" * (20 + len(digits) - 1) + "0" + digits
            self.assertIsNone(read_numbers(bits, 1, 1, zeros), u)
        for u in range(20, 40):
            digits = bin(u)[2:]
            bits = "1" * (20 + len(digits) - 1) + "0" + digits
            number = u // 2 if u % 2 == 0 else -(u + 1) // 2
            self.assertEqual(read_numbers(bits, 1, 1, zeros), ([number], ((u, 2), (0, 1))))
            self.assertIsNone(read_numbers(bits, 1, 1, START), u)
        self.assertIsNone(read_numbers("1" * 20 + "0" + "0", 1, 1, zeros))

    def test_zero_ahead_of_the_digits(self):
        for u in (20, 21, 40, 1000):
            for zeros in (1, 2, 5):
                digits = "0" * zeros + bin(u)[2:]
                bits = "1" * (20 + len(digits) - 1) + "0" + digits
                self.assertIsNone(read_numbers(bits, 1, 1, ((0, 1), (0, 1))))

    def test_too_few_digits(self):
        for bits in ("1", "0", "10", "110", "1" * 19, "1" * 20, "1" * 200, "1" * 24 + "0", "1" * 24 + "01010"):
            self.assertIsNone(read_numbers(bits, 1, 1, START), bits)

    def test_bits_of_other_kinds(self):
        for bits in NO_INTEGERS + (0, 1, 10, -1, b"1110001", ["1110001"], list("1110001"), ("1", "0"), object(), int):
            self.assertIsNone(read_numbers(bits, 2, 1, START))
            self.assertIsNone(read_numbers(bits, 1, 1, START))

    def test_strings_that_python_reads_as_numbers(self):
        for bits in ("0 ", " 0", "0_0", "0\n", "00 ", "0+1", "0-1", "0b", "0x"):
            self.assertIsNone(read_numbers(bits, 1, 1, START), bits)

    def test_long_strings(self):
        for bits in ("0" * 200000, "1" * 200000, "10" * 100000):
            self.assertIsNone(read_numbers(bits, 64, 32, START))


class MarkTest(Case):

    def test_marks(self):
        self.assertEqual(mark_of([]), 1)
        self.assertEqual(mark_of([0]), 31)
        self.assertEqual(mark_of([-1]), 32)
        self.assertEqual(mark_of([1]), 33)
        self.assertEqual(mark_of([5, -2]), 1274)
        self.assertEqual(mark_of([4971]), 0)
        self.assertEqual(mark_of([-4971]), 9972)
        self.assertEqual(mark_of([0] * 64), pow(31, 64, 9973))

    def test_marks_of_many_numbers(self):
        for many in range(65):
            for size in (3, 10 ** 5, LARGE):
                numbers = integers(many, many, size)
                before = list(numbers)
                whole = 1
                for number in numbers:
                    whole = whole * 31 + (2 * number if number >= 0 else 2 * abs(number) - 1)
                self.assertEqual(mark_of(numbers), whole % 9973)
                self.assertEqual(numbers, before)


class WrongArgumentsTest(Case):

    def test_wrong_numbers(self):
        calls = (lambda numbers: write_numbers(numbers, 0, START), mark_of)
        for call in calls:
            for numbers in NO_LISTS:
                self.fails(InvalidSound, "index", None, call, numbers)
            for item in NO_INTEGERS:
                self.fails(InvalidSound, "index", 0, call, [item, item])
                self.fails(InvalidSound, "index", 63, call, [0] * 63 + [item])

    def test_wrong_length(self):
        for length in NO_INTEGERS + (-1, 65, LARGE, -LARGE):
            self.fails(InvalidNumber, "value", length, read_numbers, "", length, 0, START)
            self.fails(InvalidNumber, "value", length, read_numbers, None, length, 0, START)

    def test_wrong_coarse(self):
        for coarse in NO_INTEGERS + (-1, 3, 65, LARGE, -LARGE):
            self.fails(InvalidNumber, "value", coarse, write_numbers, [1, 2], coarse, START)
            self.fails(InvalidNumber, "value", coarse, read_numbers, "0000", 2, coarse, START)
        self.fails(InvalidNumber, "value", 1, write_numbers, [], 1, START)
        self.fails(InvalidNumber, "value", 1, read_numbers, "", 0, 1, START)
        self.assertEqual(write_numbers([0] * 64, 64, START)[1][1], (2, 1))

    def test_wrong_tables(self):
        for tables in NO_TABLES:
            self.fails(InvalidTables, "value", tables, write_numbers, [1, 2], 1, tables)
            self.fails(InvalidTables, "value", tables, write_numbers, [], 0, tables)
            self.fails(InvalidTables, "value", tables, read_numbers, "0000", 2, 1, tables)
            self.fails(InvalidTables, "value", tables, read_numbers, None, 0, 0, tables)

    def test_order_of_errors(self):
        self.fails(InvalidSound, "index", None, write_numbers, (1,), 9, None)
        self.fails(InvalidSound, "index", 1, write_numbers, [1, None], 9, None)
        self.fails(InvalidSound, "index", 1, write_numbers, tables=None, coarse=9, numbers=[1, None])
        self.fails(InvalidNumber, "value", 9, write_numbers, [1], 9, None)
        self.fails(InvalidNumber, "value", 65, read_numbers, None, 65, 66, None)
        self.fails(InvalidNumber, "value", 9, read_numbers, None, 1, 9, None)
        self.fails(InvalidNumber, "value", None, read_numbers, tables=0, coarse=-1, length=None, bits=5)
        self.fails(InvalidTables, "value", None, read_numbers, "2", 1, 1, None)


if __name__ == "__main__":
    unittest.main()
