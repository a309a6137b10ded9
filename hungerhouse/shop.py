"""The calls that deal with the shop: buy."""

from hungerhouse.pack import kind_refusal, room_refusal
from hungerhouse.refusals import ACCEPTED, TOO_FEW, TOO_FEW_COINS
from hungerhouse.state import coins_weight, pack_weight


def cost_of(house, kind, n):
    # 99 more before the division rounds up what is not whole.
    return (house.prices[kind] * n * (100 + house.markup) + 99) // 100


def buy_refusal(house, kind, n, cost):
    if house.stock[kind] < n:
        return TOO_FEW
    if house.coins < cost:
        return TOO_FEW_COINS
    # The coins that are paid don't weigh any more.
    weight = pack_weight(house) + n * house.weights[kind] + coins_weight(house.coins - cost)
    return room_refusal(house, kind, n, weight)


def buy_things(house, kind, n):
    refusal = kind_refusal(house, kind)
    if refusal != ACCEPTED:
        return [refusal]
    cost = cost_of(house, kind, n)
    refusal = buy_refusal(house, kind, n, cost)
    if refusal != ACCEPTED:
        return [refusal]
    house.stock[kind] -= n
    house.pack[kind] += n
    house.coins -= cost
    house.shop_coins += cost
    return [ACCEPTED, cost]
