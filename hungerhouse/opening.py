"""The call that opens a house."""

from hungerhouse.refusals import ACCEPTED, ALREADY_OPEN, BAD_COUNT


def opening_refusal(house, rows):
    if house.opened:
        return ALREADY_OPEN
    kinds = len(rows[0])
    if kinds == 0:
        return BAD_COUNT
    for row in rows:
        if len(row) != kinds:
            return BAD_COUNT
    return ACCEPTED


def keep_numbers(house, numbers):
    house.capacity = numbers[0]
    house.markup = numbers[1]
    house.pays = numbers[2]
    house.regen = numbers[3]
    house.most_hits = numbers[4]
    house.coins = numbers[5]
    house.shop_coins = numbers[6]


def keep_rows(house, rows):
    house.weights = list(rows[0])
    house.prices = list(rows[1])
    house.foods = list(rows[2])
    house.fuels = list(rows[3])


def open_house(house, numbers, rows):
    refusal = opening_refusal(house, rows)
    if refusal != ACCEPTED:
        return [refusal]
    keep_numbers(house, numbers)
    keep_rows(house, rows)
    house.pack = [0] * len(rows[0])
    house.stock = [0] * len(rows[0])
    house.hits = house.most_hits
    house.opened = True
    return [ACCEPTED]
