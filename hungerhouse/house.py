"""The interface: a list of calls in, a list of their answers out."""

from hungerhouse.asking import (tell_ahead, tell_burden, tell_pack, tell_price, tell_shop, tell_status, tell_when,
                                tell_worth)
from hungerhouse.body import hurt_one, set_drain, switch_light, wait_ticks
from hungerhouse.opening import open_house
from hungerhouse.pack import drop_things, eat_thing, fill_light, find_things
from hungerhouse.ranges import are_numbers_within, are_rows_within
from hungerhouse.reader import Reader, read_numbers, read_rows
from hungerhouse.refusals import NOT_OPEN, OUT_OF_RANGE
from hungerhouse.shop import buy_things, sell_things, stock_things
from hungerhouse.state import House

OPEN = 0
FIND = 1
DROP = 2
EAT = 3
FILL = 4
LIGHT = 5
WAIT = 6
DRAIN = 7
HURT = 8
BUY = 9
SELL = 10
STOCK = 11
STATUS = 12
PRICE = 13
WHEN = 14
PACK = 15
BURDEN = 16
WORTH = 17
SHOP = 18


def answer_doing(house, call, numbers):
    if call == FIND:
        return find_things(house, numbers[0], numbers[1])
    if call == DROP:
        return drop_things(house, numbers[0], numbers[1])
    if call == EAT:
        return eat_thing(house, numbers[0])
    if call == FILL:
        return fill_light(house, numbers[0])
    if call == LIGHT:
        return switch_light(house, numbers[0])
    if call == WAIT:
        return wait_ticks(house, numbers[0])
    if call == DRAIN:
        return set_drain(house, numbers[0])
    if call == HURT:
        return hurt_one(house, numbers[0])
    if call == BUY:
        return buy_things(house, numbers[0], numbers[1])
    if call == SELL:
        return sell_things(house, numbers[0], numbers[1])
    # Only stock is left: the calls that ask are answered elsewhere.
    return stock_things(house, numbers[0], numbers[1])


def answer_asking(house, call, numbers):
    if call == STATUS:
        return tell_status(house)
    if call == PRICE:
        return tell_price(house, numbers[0], numbers[1])
    if call == WHEN:
        return tell_when(house)
    if call == PACK:
        return tell_pack(house)
    if call == BURDEN:
        return tell_burden(house)
    if call == WORTH:
        return tell_worth(house)
    if call == SHOP:
        return tell_shop(house)
    # Only ahead is left: the reader knows no further call.
    return tell_ahead(house, numbers[0])


def answer_opened(house, call, numbers):
    if call <= STOCK:
        return answer_doing(house, call, numbers)
    return answer_asking(house, call, numbers)


def answer_call(house, call, numbers, rows):
    # Before all else, even before it is asked whether the house is open.
    if not are_numbers_within(call, numbers) or not are_rows_within(rows):
        return [OUT_OF_RANGE]
    if call == OPEN:
        return open_house(house, numbers, rows)
    if not house.opened:
        return [NOT_OPEN]
    return answer_opened(house, call, numbers)


def answers(calls):
    house = House()
    reader = Reader(calls)
    answered = []
    while reader.has_more():
        call = reader.take_number()
        numbers = read_numbers(reader, call)
        rows = read_rows(reader) if call == OPEN else []
        answer = answer_call(house, call, numbers, rows)
        answered.append(len(answer))
        answered.extend(answer)
    return answered
