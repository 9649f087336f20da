"""The form of each call: how it is read from the flat list, and what its ranges are."""

# By the call's number: the least and the greatest of each plain argument.
PLAIN_RANGES = {
    0: ((1, 8), (1, 1000000), (0, 2)),
    1: ((1, 3), (1, 1000000), (1, 100000000), (1, 3)),
    2: ((0, 1), (1, 8), (0, 1440), (1, 1440)),
    3: ((1, 1440),),
    4: ((1, 8),),
    5: ((1, 3),),
    6: ((1, 3),),
    7: ((0, 1000000),),
    8: ((1, 8),),
    9: ((1, 3),),
    10: (),
    11: (),
    12: ((0, 3),),
    13: (),
    14: ((0, 2), (1, 8)),
    15: ((0, 10000),),
    16: ((1, 1440),),
    17: (),
}

# By the call's number, of each list: the fewest and the most members, the least and the greatest member.
ROW_RANGES = {
    0: ((1, 3, 1, 60), (1, 3, 1, 60), (1, 3, 1, 60), (1, 9, 1, 60), (1, 9, 1, 60)),
    13: ((0, 600, 0, 100000000),),
}


class Call:
    def __init__(self, number, plain, rows):
        self.number = number
        self.plain = plain
        self.rows = rows


class Reader:
    def __init__(self, numbers):
        self.numbers = numbers
        self.at = 0

    def has_more(self):
        return self.at < len(self.numbers)

    def take(self):
        self.at += 1
        return self.numbers[self.at - 1]

    def take_many(self, many):
        self.at += many
        return self.numbers[self.at - many:self.at]


def read_call(reader):
    number = reader.take()
    plain = reader.take_many(len(PLAIN_RANGES[number]))
    rows = []
    for k in range(len(ROW_RANGES.get(number, ()))):
        rows.append(reader.take_many(reader.take()))
    return Call(number, plain, rows)


def is_within_ranges(call):
    for value, ends in zip(call.plain, PLAIN_RANGES[call.number]):
        if not ends[0] <= value <= ends[1]:
            return False
    for row, ends in zip(call.rows, ROW_RANGES.get(call.number, ())):
        if not is_row_within(row, ends):
            return False
    return True


def is_row_within(row, ends):
    if not ends[0] <= len(row) <= ends[1]:
        return False
    return all([ends[2] <= member <= ends[3] for member in row])
