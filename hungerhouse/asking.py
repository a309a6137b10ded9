"""The calls that ask and change nothing: status, price, when, pack, burden, worth, shop, ahead."""

from hungerhouse.refusals import ACCEPTED, NO_SUCH_KIND
from hungerhouse.shop import cost_of, gain_of
from hungerhouse.state import HUNGRY_FED, WEAK_FED, copy_of, has_kind, how_one_is, is_gone, load_of, rate_of, weight_of
from hungerhouse.ticks import pass_ticks

UNLIT = -1


def tell_status(house):
    gone = 1 if is_gone(house) else 0
    return [ACCEPTED] + how_one_is(house) + [house.most_hits, house.fed, house.healed, house.clock, gone]


def tell_price(house, kind, n):
    if not has_kind(house, kind):
        return [NO_SUCH_KIND]
    return [ACCEPTED, cost_of(house, kind, n), gain_of(house, kind, n)]


def ticks_until(house, fed):
    rate = rate_of(house)
    # One less than the rate more before the division: the tick that goes below counts whole.
    return (max(0, house.fed - fed) + rate - 1) // rate


def tell_when(house):
    moods = [ticks_until(house, HUNGRY_FED), ticks_until(house, WEAK_FED), ticks_until(house, 0)]
    return [ACCEPTED] + moods + [house.fuel if house.lit else UNLIT]


def tell_pack(house):
    return [ACCEPTED] + house.pack


def tell_burden(house):
    return [ACCEPTED, weight_of(house), load_of(house), rate_of(house)]


def tell_worth(house):
    worth = house.coins
    for count, price in zip(house.pack, house.prices):
        worth += count * price
    return [ACCEPTED, worth, house.coins]


def tell_shop(house):
    return [ACCEPTED, house.shop_coins] + house.stock


def tell_ahead(house, ticks):
    # The ticks go by on a copy; if one is gone, none does.
    later = copy_of(house)
    passed = pass_ticks(later, ticks)
    return [ACCEPTED, passed] + how_one_is(later)
