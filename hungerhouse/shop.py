"""The calls that deal with the shop, and its prices: buy, sell, stock."""

from hungerhouse.pack import MOST_OF_A_KIND, kind_refusal, room_refusal, taking_refusal
from hungerhouse.refusals import ACCEPTED, BAD_COUNT, NO_SUCH_KIND, TOO_FEW, TOO_FEW_COINS, TOO_HEAVY
from hungerhouse.state import coins_weight, has_kind, is_too_much, pack_weight


def cost_of(house, kind, n):
    # 99 more before the division rounds up what is not whole.
    return (house.prices[kind] * n * (100 + house.markup) + 99) // 100


def gain_of(house, kind, n):
    return house.prices[kind] * n * house.pays // 100


# In these two n things come into the pack for so many coins; where one sells, both are below 0.
def weight_after(house, kind, n, paid):
    # Coins weigh too, so what is paid counts as well as what is carried for it.
    return pack_weight(house) + n * house.weights[kind] + coins_weight(house.coins - paid)


def deal(house, kind, n, paid):
    house.stock[kind] -= n
    house.pack[kind] += n
    house.coins -= paid
    house.shop_coins += paid


def stock_refusal(house, kind, n):
    if house.stock[kind] + n > MOST_OF_A_KIND:
        return BAD_COUNT
    return ACCEPTED


def buy_refusal(house, kind, n, cost):
    if house.stock[kind] < n:
        return TOO_FEW
    if house.coins < cost:
        return TOO_FEW_COINS
    return room_refusal(house, kind, n, weight_after(house, kind, n, cost))


def buy_things(house, kind, n):
    refusal = kind_refusal(house, kind)
    if refusal != ACCEPTED:
        return [refusal]
    cost = cost_of(house, kind, n)
    refusal = buy_refusal(house, kind, n, cost)
    if refusal != ACCEPTED:
        return [refusal]
    deal(house, kind, n, cost)
    return [ACCEPTED, cost]


def sell_refusal(house, kind, n, gain):
    if house.shop_coins < gain:
        return TOO_FEW_COINS
    refusal = stock_refusal(house, kind, n)
    if refusal != ACCEPTED:
        return refusal
    if is_too_much(house, weight_after(house, kind, -n, -gain)):
        return TOO_HEAVY
    return ACCEPTED


def sell_things(house, kind, n):
    refusal = taking_refusal(house, kind, n)
    if refusal != ACCEPTED:
        return [refusal]
    gain = gain_of(house, kind, n)
    refusal = sell_refusal(house, kind, n, gain)
    if refusal != ACCEPTED:
        return [refusal]
    deal(house, kind, -n, -gain)
    return [ACCEPTED, gain]


# The shop is stocked whether one is gone or not.
def stock_things(house, kind, n):
    if not has_kind(house, kind):
        return [NO_SUCH_KIND]
    refusal = stock_refusal(house, kind, n)
    if refusal != ACCEPTED:
        return [refusal]
    house.stock[kind] += n
    return [ACCEPTED, house.stock[kind]]
