"""Reads calls out of the one list in which they stand one behind another."""

from hungerhouse.ranges import NUMBER_RANGES, ROW_RANGES


class Reader:
    def __init__(self, calls):
        self.calls = calls
        self.place = 0

    def has_more(self):
        return self.place < len(self.calls)

    def take_number(self):
        number = self.calls[self.place]
        self.place += 1
        return number

    def take_numbers(self, many):
        start = self.place
        self.place = start + many
        return self.calls[start:self.place]


def read_numbers(reader, call):
    return reader.take_numbers(len(NUMBER_RANGES[call]))


# All rows that are there are read, however long: what stands behind them must be found again.
def read_rows(reader):
    rows = []
    while len(rows) < len(ROW_RANGES):
        many = reader.take_number()
        rows.append(reader.take_numbers(many))
    return rows
