"""The calls on what is in the pack: find, drop, eat, fill."""

from hungerhouse.refusals import ACCEPTED, BAD_COUNT, GONE, NO_SUCH_KIND, OF_NO_USE, TOO_FEW, TOO_HEAVY
from hungerhouse.state import has_kind, is_gone, is_too_much, weight_of

MOST_OF_A_KIND = 10000
MOST_FED = 2000000
MOST_FUEL = 1000000


# Every call that moves what one carries looks at these two first, in this order.
def kind_refusal(house, kind):
    if not has_kind(house, kind):
        return NO_SUCH_KIND
    if is_gone(house):
        return GONE
    return ACCEPTED


# The weight is handed in as it would be afterwards, since a deal changes the coins too.
def room_refusal(house, kind, n, weight):
    if house.pack[kind] + n > MOST_OF_A_KIND:
        return BAD_COUNT
    if is_too_much(house, weight):
        return TOO_HEAVY
    return ACCEPTED


def find_refusal(house, kind, n):
    refusal = kind_refusal(house, kind)
    if refusal != ACCEPTED:
        return refusal
    return room_refusal(house, kind, n, weight_of(house) + n * house.weights[kind])


def find_things(house, kind, n):
    refusal = find_refusal(house, kind, n)
    if refusal != ACCEPTED:
        return [refusal]
    house.pack[kind] += n
    return [ACCEPTED, house.pack[kind]]


def taking_refusal(house, kind, n):
    refusal = kind_refusal(house, kind)
    if refusal != ACCEPTED:
        return refusal
    if house.pack[kind] < n:
        return TOO_FEW
    return ACCEPTED


def drop_things(house, kind, n):
    refusal = taking_refusal(house, kind, n)
    if refusal != ACCEPTED:
        return [refusal]
    house.pack[kind] -= n
    return [ACCEPTED, house.pack[kind]]


# To eat and to fill differ only in the row that tells of what use each kind is.
def use_refusal(house, kind, uses):
    refusal = taking_refusal(house, kind, 1)
    if refusal != ACCEPTED:
        return refusal
    if uses[kind] == 0:
        return OF_NO_USE
    return ACCEPTED


def eat_thing(house, kind):
    refusal = use_refusal(house, kind, house.foods)
    if refusal != ACCEPTED:
        return [refusal]
    house.pack[kind] -= 1
    house.fed = min(MOST_FED, house.fed + 1000 * house.foods[kind])
    return [ACCEPTED, house.fed // 1000]


def fill_light(house, kind):
    refusal = use_refusal(house, kind, house.fuels)
    if refusal != ACCEPTED:
        return [refusal]
    house.pack[kind] -= 1
    house.fuel = min(MOST_FUEL, house.fuel + house.fuels[kind])
    return [ACCEPTED, house.fuel]
