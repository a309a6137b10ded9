"""Makes calls for the tests, and takes their answers apart."""

from hungerhouse.house import answer_call, answers
from hungerhouse.state import House

HUGE = 10 ** 18


def opening(capacity=1000, markup=20, pays=50, regen=0, most_hits=10, coins=0, shop_coins=0,
            weights=(1,), prices=None, foods=None, fuels=None):
    """An open call; the rows that aren't told are as long as weights."""
    rows = [list(weights)]
    for row, usual in ((prices, 1), (foods, 0), (fuels, 0)):
        rows.append([usual] * len(rows[0]) if row is None else list(row))
    call = [0, capacity, markup, pays, regen, most_hits, coins, shop_coins]
    for row in rows:
        call = call + [len(row)] + row
    return call


def find(kind, n):
    return [1, kind, n]


def drop(kind, n):
    return [2, kind, n]


def eat(kind):
    return [3, kind]


def fill(kind):
    return [4, kind]


def light(on):
    return [5, on]


def wait(ticks):
    return [6, ticks]


def drain(thousandths):
    return [7, thousandths]


def hurt(hits):
    return [8, hits]


def buy(kind, n):
    return [9, kind, n]


def sell(kind, n):
    return [10, kind, n]


def stock(kind, n):
    return [11, kind, n]


def status():
    return [12]


def price(kind, n):
    return [13, kind, n]


def when():
    return [14]


def pack():
    return [15]


def burden():
    return [16]


def worth():
    return [17]


def shop():
    return [18]


def ahead(ticks):
    return [19, ticks]


# What these answer tells all that may change in a house, but for the drain, which burden's rate shows.
ASKED = (status(), when(), pack(), burden(), worth(), shop())


def take_apart(flat):
    """The answers, a list for each call."""
    found = []
    place = 0
    while place < len(flat):
        many = flat[place]
        found.append(flat[place + 1:place + 1 + many])
        place += 1 + many
    assert place == len(flat)
    return found


def ask(*calls):
    """What each of these calls answers, one behind another on a new house."""
    flat = [number for call in calls for number in call]
    found = take_apart(answers(flat))
    assert len(found) == len(calls)
    return found


def last(*calls):
    """What the last of these calls answers."""
    return ask(*calls)[-1]


def stocked(counts, **told):
    """An opened house with this in the shop's stock."""
    house = House()
    call = opening(**told)
    rows = []
    place = 8
    while place < len(call):
        rows.append(call[place + 1:place + 1 + call[place]])
        place += 1 + call[place]
    assert answer_call(house, 0, call[1:8], rows) == [0]
    for kind, n in enumerate(counts):
        if n > 0:
            assert ask_house(house, stock(kind, n)) == [0, n]
    return house


def ask_house(house, call):
    """What a call other than open answers on this house."""
    return answer_call(house, call[0], call[1:], [])
