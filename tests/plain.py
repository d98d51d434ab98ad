"""The definitions of the document, written down a second time in the plainest way, and streams made by them."""

import itertools

from helpers import LARGE, integers, sequence

COEFFICIENTS = {0: (-1, 2), 1: (-2, 3), 2: (1, -2), 3: (2, -3)}
START = ((2, 1), (2, 1))
HARD = (0, 0)


def three_steps(shape, a, b):
    c, d = COEFFICIENTS[shape]
    a += (c * b + 2) // 4
    b += (d * a + 2) // 4
    a += (c * b + 2) // 4
    return (a, b)


def three_steps_back(shape, a, b):
    c, d = COEFFICIENTS[shape]
    a -= (c * b + 2) // 4
    b -= (d * a + 2) // 4
    a -= (c * b + 2) // 4
    return (a, b)


def plainly_folded(values, joints, steps=three_steps):
    x = list(values)
    for p, (width, shape) in joints:
        for i in range(width):
            x[p - 1 - i], x[p + i] = steps(shape, x[p - 1 - i], x[p + i])
    return x


def plainly_split(values, levels):
    if levels == 0 or len(values) == 1:
        return list(values)
    pairs = [values[at:at + 2] for at in range(0, len(values), 2)]
    sums = [sum(pair) // len(pair) for pair in pairs]
    differences = [pair[0] - pair[1] for pair in pairs if len(pair) == 2]
    return plainly_split(sums, levels - 1) + differences


def plainly_joined(numbers, levels):
    many = len(numbers)
    if levels == 0 or many == 1:
        return list(numbers)
    sums = plainly_joined(numbers[:many - many // 2], levels - 1)
    values = []
    for s, d in itertools.zip_longest(sums, numbers[many - many // 2:]):
        # Of a and b with the difference d, the sum (a + b) // 2 is s for exactly one pair.
        values += [s] if d is None else [(2 * s + d + d % 2) // 2, (2 * s - d + d % 2) // 2]
    return values


def plain_coarse(length, levels):
    for level in range(levels):
        length = -(-length // 2)
    return length


def plain_parameter(table):
    total, count = table
    return next(k for k in itertools.count() if count * 2 ** k >= total)


def plain_code(n):
    return 2 * n if n >= 0 else -2 * n - 1


def plain_bits(u, k):
    if u // 2 ** k < 20:
        low = [str(u // 2 ** place % 2) for place in range(k)]
        return "1" * (u // 2 ** k) + "0" + "".join(reversed(low))
    digits = bin(u)[2:]
    return "1" * 20 + "1" * (len(digits) - 1) + "0" + digits


def plainly_written(numbers, coarse, tables):
    now = [list(table) for table in tables]
    bits = ""
    for at, number in enumerate(numbers):
        table = now[0] if at < coarse else now[1]
        u = plain_code(number)
        bits += plain_bits(u, plain_parameter(table))
        table[0] += u
        table[1] += 1
        if table[1] == 16:
            table[0], table[1] = table[0] // 2, 8
    return bits, (tuple(now[0]), tuple(now[1]))


def plain_mark(numbers):
    mark = 1
    for number in numbers:
        mark = (mark * 31 + plain_code(number)) % 9973
    return mark


def plain_record(layout, numbers, tables):
    """The record of a frame, and the tables behind it."""
    length, joint, levels, step = layout
    bits, behind = plainly_written(numbers, plain_coarse(length, levels), tables)
    return ("frame", length, joint, levels, step, plain_mark(numbers), bits), behind


def joints_at_places(layouts):
    ends = list(itertools.accumulate(layout[0] for layout in layouts))
    return [(end, layout[1]) for end, layout in zip(ends, layouts)][:-1]


def plainly_encoded(sound, plan, states=0):
    """The records of a sound."""
    values = plainly_folded(sound, joints_at_places(plan))
    records, tables, start = [], START, 0
    for frame, layout in enumerate(plan):
        length, joint, levels, step = layout
        if states and frame and frame % states == 0:
            records.append(("state", tables))
        numbers = [(2 * v + step) // (2 * step) for v in plainly_split(values[start:start + length], levels)]
        record, tables = plain_record(layout, numbers, tables)
        records.append(record)
        start += length
    return records


class Built:
    """A stream that is made of the numbers of its frames, with all that is to be found in it."""

    def __init__(self, layouts, numbers, states):
        """states: the tables of the state records before each frame, and behind the last one."""
        self.layouts, self.numbers = layouts, numbers
        self.records, self.blocks, self.before, self.after, self.contents, self.origins = [], [], [], [], [], []
        tables, start, left, origin = START, 0, HARD, 0
        for layout, own, above in itertools.zip_longest(layouts, numbers, states):
            for tables in above:
                origin = len(self.records)
                self.records.append(("state", tables))
            if layout is None:
                break
            length, right, levels, step = layout
            self.blocks.append((len(self.records), start, length, left, right))
            self.before.append(tables)
            self.origins.append(origin)
            record, tables = plain_record(layout, own, tables)
            self.records.append(record)
            self.after.append(tables)
            self.contents.append(plainly_joined([n * step for n in own], levels))
            start, left = start + length, right
        self.length = start
        self.sound = plain_sound(layouts, self.contents)
        self.index = [block + layout[2:] + (origin,)
                      for block, layout, origin in zip(self.blocks, layouts, self.origins)]


def plain_sound(layouts, contents):
    values = [value for block in contents for value in block]
    return plainly_folded(values, joints_at_places(layouts), three_steps_back)


def any_layouts(source, most=12, limit=64):
    """Layouts of up to so many frames, with joints of all widths and shapes that fit."""
    longest = [limit, min(limit, 9)]
    lengths = [1 + next(source) % longest[next(source) % 2] for frame in range(next(source) % (most + 1))]
    layouts, left = [], 0
    for length, behind in itertools.zip_longest(lengths, lengths[1:], fillvalue=0):
        width = next(source) % (min(8, length - left, behind) + 1)
        shape = next(source) % 4 if width else 0
        step = 1 + next(source) % 64 if next(source) % 2 else 1
        layouts.append((length, (width, shape), next(source) % 6, step))
        left = width
    return layouts


def any_tables(source):
    """Tables with totals of all sizes."""
    totals = [next(source) % 3, next(source) % 500, next(source), LARGE - next(source)]
    return tuple((totals[next(source) % 4], 1 + next(source) % 15) for table in range(2))


def any_built(seed, most=12, limit=64, size=40):
    """A stream with up to so many frames, and state records before some of them and behind the last one."""
    source = sequence(seed)
    layouts = any_layouts(source, most, limit)
    numbers = [integers(next(source), layout[0], size) for layout in layouts]
    states = [[any_tables(source) for state in range((0, 0, 0, 1, 1, 2, 3)[next(source) % 7])]
              for frame in range(len(layouts) + 1)]
    return Built(layouts, numbers, states)
