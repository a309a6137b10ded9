"""How time goes by."""

from hungerhouse.state import is_gone, mood_of, rate_of


def healing_of(house):
    mood = mood_of(house)
    if mood == 0:
        return house.regen
    if mood == 1:
        return house.regen // 2
    return 0


def heal(house):
    house.healed += healing_of(house)
    while house.healed >= 1000 and house.hits < house.most_hits:
        house.healed -= 1000
        house.hits += 1
    if house.hits == house.most_hits:
        house.healed = 0


def burn(house):
    if not house.lit:
        return
    house.fuel -= 1
    if house.fuel == 0:
        house.lit = False


def tick(house, rate):
    # Healing goes by the mood at the beginning, so it comes before one gets hungrier.
    heal(house)
    house.fed = max(0, house.fed - rate)
    burn(house)
    house.clock += 1


# Gives back how many ticks went by: fewer than asked for if one is gone before.
def pass_ticks(house, ticks):
    # A tick changes neither the pack, the coins nor the drain: the rate stays as it is.
    rate = rate_of(house)
    passed = 0
    while passed < ticks and not is_gone(house):
        tick(house, rate)
        passed += 1
    return passed
