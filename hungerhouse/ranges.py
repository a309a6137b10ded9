"""Which arguments each call has, and the range of each of them."""

# The whole numbers of each call in their order, each as (lowest, highest).
NUMBER_RANGES = {
    # open: capacity, markup, pays, regen, most hits, one's coins, the shop's coins
    0: ((1, 100000), (0, 400), (0, 100), (0, 10000), (1, 10000), (0, 1000000000000), (0, 1000000000000)),
    # find: kind, n
    1: ((0, 15), (1, 10000)),
    # drop: kind, n
    2: ((0, 15), (1, 10000)),
    # eat: kind
    3: ((0, 15),),
    # fill: kind
    4: ((0, 15),),
    # light: on
    5: ((0, 1),),
    # wait: ticks
    6: ((1, 1000000),),
    # drain: drain
    7: ((0, 5000),),
    # hurt: hits
    8: ((1, 10000),),
    # buy: kind, n
    9: ((0, 15), (1, 10000)),
    # sell: kind, n
    10: ((0, 15), (1, 10000)),
    # stock: kind, n
    11: ((0, 15), (1, 10000)),
    # status
    12: (),
    # price: kind, n
    13: ((0, 15), (1, 10000)),
    # when
    14: (),
    # pack
    15: (),
    # burden
    16: (),
    # worth
    17: (),
    # shop
    18: (),
    # ahead: ticks
    19: ((1, 1000000),),
}

# The rows of open, the only call that has some: weights, base prices, food values, fuel values.
ROW_RANGES = ((0, 1000), (1, 1000000), (0, 2000), (0, 100000))

LONGEST_ROW = 16


def is_within(number, bounds):
    return bounds[0] <= number <= bounds[1]


def are_numbers_within(call, numbers):
    for number, bounds in zip(numbers, NUMBER_RANGES[call]):
        if not is_within(number, bounds):
            return False
    return True


def is_row_within(row, bounds):
    if len(row) > LONGEST_ROW:
        return False
    for number in row:
        if not is_within(number, bounds):
            return False
    return True


def are_rows_within(rows):
    for row, bounds in zip(rows, ROW_RANGES):
        if not is_row_within(row, bounds):
            return False
    return True
