"""The interface: a list of calls in, a list of their answers out."""

from hungerhouse.body import hurt_one, set_drain, switch_light, wait_ticks
from hungerhouse.opening import open_house
from hungerhouse.pack import drop_things, eat_thing, fill_light, find_things
from hungerhouse.ranges import are_numbers_within, are_rows_within
from hungerhouse.reader import Reader, read_numbers, read_rows
from hungerhouse.refusals import NOT_OPEN, OUT_OF_RANGE
from hungerhouse.shop import buy_things
from hungerhouse.state import House

OPEN = 0
FIND = 1
DROP = 2
EAT = 3
FILL = 4
LIGHT = 5
WAIT = 6
DRAIN = 7
HURT = 8


def answer_opened(house, call, numbers):
    if call == FIND:
        return find_things(house, numbers[0], numbers[1])
    if call == DROP:
        return drop_things(house, numbers[0], numbers[1])
    if call == EAT:
        return eat_thing(house, numbers[0])
    if call == FILL:
        return fill_light(house, numbers[0])
    if call == LIGHT:
        return switch_light(house, numbers[0])
    if call == WAIT:
        return wait_ticks(house, numbers[0])
    if call == DRAIN:
        return set_drain(house, numbers[0])
    if call == HURT:
        return hurt_one(house, numbers[0])
    # Only buy is left: the reader knows no further call.
    return buy_things(house, numbers[0], numbers[1])


def answer_call(house, call, numbers, rows):
    # Before all else, even before it is asked whether the house is open.
    if not are_numbers_within(call, numbers) or not are_rows_within(rows):
        return [OUT_OF_RANGE]
    if call == OPEN:
        return open_house(house, numbers, rows)
    if not house.opened:
        return [NOT_OPEN]
    return answer_opened(house, call, numbers)


def answers(calls):
    house = House()
    reader = Reader(calls)
    answered = []
    while reader.has_more():
        call = reader.take_number()
        numbers = read_numbers(reader, call)
        rows = read_rows(reader) if call == OPEN else []
        answer = answer_call(house, call, numbers, rows)
        answered.append(len(answer))
        answered.extend(answer)
    return answered
