"""What a house keeps, and what follows from it at once."""

# One is hungry, and then weak, as soon as fed is this or less.
HUNGRY_FED = 300000
WEAK_FED = 100000


# A new one isn't open yet: opening it gives it what has no value of its own at first.
class House:
    def __init__(self):
        self.opened = False
        self.capacity = 0
        self.markup = 0
        self.pays = 0
        self.regen = 0
        self.most_hits = 0
        self.coins = 0
        self.shop_coins = 0
        self.weights = []
        self.prices = []
        self.foods = []
        self.fuels = []
        self.pack = []
        self.stock = []
        self.fed = 900000
        self.hits = 0
        self.healed = 0
        self.fuel = 0
        self.lit = False
        self.drain = 0
        self.clock = 0


# The rows that opening gives are never changed, so the copy may share them; pack and stock are its own.
def copy_of(house):
    other = House()
    other.opened = house.opened
    other.capacity = house.capacity
    other.markup = house.markup
    other.pays = house.pays
    other.regen = house.regen
    other.most_hits = house.most_hits
    other.coins = house.coins
    other.shop_coins = house.shop_coins
    other.weights = house.weights
    other.prices = house.prices
    other.foods = house.foods
    other.fuels = house.fuels
    other.pack = list(house.pack)
    other.stock = list(house.stock)
    other.fed = house.fed
    other.hits = house.hits
    other.healed = house.healed
    other.fuel = house.fuel
    other.lit = house.lit
    other.drain = house.drain
    other.clock = house.clock
    return other


def has_kind(house, kind):
    return kind < len(house.weights)


def is_gone(house):
    return house.fed == 0 or house.hits == 0


def mood_of(house):
    if house.fed > HUNGRY_FED:
        return 0
    if house.fed > WEAK_FED:
        return 1
    if house.fed > 0:
        return 2
    return 3


def radius_of(house):
    if not house.lit:
        return 0
    if house.fuel <= 50:
        return 1
    return 2


def how_one_is(house):
    return [house.fed // 1000, mood_of(house), house.hits, radius_of(house), house.fuel]


def pack_weight(house):
    total = 0
    for count, weight in zip(house.pack, house.weights):
        total += count * weight
    return total


def coins_weight(coins):
    return coins // 100


def weight_of(house):
    return pack_weight(house) + coins_weight(house.coins)


def is_too_much(house, weight):
    # Both sides doubled, since half of an odd capacity isn't whole.
    return 2 * weight > 3 * house.capacity


def load_of(house):
    # Both sides fourfold, since a quarter of the capacity may not be whole.
    fourfold = 4 * weight_of(house)
    load = 0
    for quarters in (2, 3, 4, 5):
        if fourfold > quarters * house.capacity:
            load += 1
    return load


def rate_of(house):
    return 1000 + 250 * load_of(house) + house.drain
