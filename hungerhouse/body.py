"""The calls on oneself and the time: light, wait, drain, hurt."""

from hungerhouse.refusals import ACCEPTED, GONE, OF_NO_USE
from hungerhouse.state import how_one_is, is_gone, radius_of, rate_of
from hungerhouse.ticks import pass_ticks


def switch_light(house, on):
    if is_gone(house):
        return [GONE]
    if on == 1 and house.fuel == 0:
        return [OF_NO_USE]
    house.lit = on == 1
    return [ACCEPTED, radius_of(house)]


def wait_ticks(house, ticks):
    if is_gone(house):
        return [GONE]
    passed = pass_ticks(house, ticks)
    return [ACCEPTED, passed] + how_one_is(house)


def set_drain(house, drain):
    house.drain = drain
    return [ACCEPTED, rate_of(house)]


def hurt_one(house, hits):
    if is_gone(house):
        return [GONE]
    house.hits = max(0, house.hits - hits)
    return [ACCEPTED, house.hits]
