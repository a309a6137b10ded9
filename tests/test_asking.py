"""Calls 12 to 19: status, price, when, pack, burden, worth, shop, ahead."""

import unittest
from fractions import Fraction

from hungerhouse.state import copy_of
from tests.helper import (ASKED, HUGE, ahead, ask, ask_house, burden, buy, drain, drop, eat, fill, find, hurt, last,
                          light, opening, pack, price, sell, shop, status, stock, stocked, wait, when, worth)

BAD_KINDS = (-1, 16, HUGE, -HUGE)
BAD_COUNTS = (0, -1, 10001, HUGE, -HUGE)
BAD_TICKS = (0, -1, 1000001, HUGE, -HUGE)

# Two kinds: the first is eaten, the second burns.
LIVELY = [opening(capacity=40, markup=30, pays=70, regen=300, most_hits=30, coins=500, shop_coins=900, weights=(2, 1),
                  prices=(10, 7), foods=(50, 0), fuels=(0, 120)),
          stock(0, 20), find(0, 9), find(1, 4), fill(1), light(1), hurt(12), drain(13), wait(5), buy(0, 2), sell(1, 1)]
# Ways of being, each behind the calls that lead there.
HOUSES = {
    "new": [opening()],
    "lively": LIVELY,
    "hungry": LIVELY + [wait(380), hurt(3)],
    "weak": LIVELY + [wait(520)],
    "starved": LIVELY + [wait(10000)],
    "beaten": LIVELY + [hurt(10000)],
    "loaded": [opening(capacity=4, regen=1, fuels=(3,)), find(0, 6), fill(0), find(0, 1), light(1), hurt(9)],
}
QUESTIONS = ASKED + (price(0, 3), price(1, 1), price(16, 1), ahead(1), ahead(77), ahead(1000000), ahead(0))


class AskingTest(unittest.TestCase):
    def test_not_open(self):
        for call in ASKED + (price(0, 1), price(15, 10000), ahead(1), ahead(1000000)):
            with self.subTest(call=call):
                self.assertEqual(ask(call, opening()), [[-2], [0]])

    def test_what_asks_changes_nothing(self):
        for name, calls in HOUSES.items():
            for question in QUESTIONS:
                told = ask(*calls, *ASKED, question, *ASKED, question, question)[len(calls):]
                with self.subTest(house=name, question=question):
                    self.assertEqual(told[:6], told[7:13])
                    self.assertEqual(told[6], told[13])
                    self.assertEqual(told[6], told[14])

    def test_what_asks_leaves_all_that_is_kept(self):
        house = stocked([5, 6], weights=(1, 2), fuels=(0, 9), coins=50, shop_coins=60)
        for call in (find(0, 3), find(1, 2), fill(1), light(1), hurt(4), wait(2), drain(8)):
            self.assertEqual(ask_house(house, call)[0], 0)
        before = vars(copy_of(house))
        for question in QUESTIONS:
            ask_house(house, question)
            with self.subTest(question=question):
                self.assertEqual(vars(house), before)

    def test_what_is_done_between_goes_on_as_without_asking(self):
        often = [LIVELY[0]]
        for call in LIVELY[1:]:
            often += [*QUESTIONS, call]
        self.assertEqual(ask(*often, *ASKED)[-len(ASKED):], ask(*LIVELY, *ASKED)[-len(ASKED):])


class CopyTest(unittest.TestCase):
    def test_everything_is_copied(self):
        house = stocked([5, 6], weights=(1, 2), prices=(3, 4), foods=(5, 6), fuels=(7, 8), capacity=77, markup=1,
                        pays=2, regen=3, most_hits=44, coins=50, shop_coins=60)
        for call in (find(0, 3), find(1, 2), fill(1), light(1), hurt(4), wait(2), drain(8)):
            self.assertEqual(ask_house(house, call)[0], 0)
        other = copy_of(house)
        self.assertEqual(vars(other), vars(house))
        for call in (drop(0, 1), stock(1, 1), wait(5)):
            ask_house(other, call)
        self.assertEqual((house.pack, house.stock, house.clock), ([3, 1], [5, 6], 2))


class StatusTest(unittest.TestCase):
    def test_at_first(self):
        self.assertEqual(last(opening(most_hits=123), status()), [0, 900, 0, 123, 0, 0, 123, 900000, 0, 0, 0])

    def test_accepted(self):
        calls = [opening(regen=300, most_hits=20, fuels=(60,)), find(0, 1), fill(0), light(1), hurt(7), drain(11),
                 wait(5), status()]
        # 1500 healed: one hit, and 500 on the way.
        self.assertEqual(last(*calls), [0, 894, 0, 14, 2, 55, 20, 894945, 500, 5, 0])

    def test_fed_is_rounded_down_at_first_and_told_whole_later(self):
        self.assertEqual(last(opening(), drain(1), wait(1), status()), [0, 898, 0, 10, 0, 0, 10, 898999, 0, 1, 0])
        self.assertEqual(last(opening(), drain(999), wait(1), status()), [0, 898, 0, 10, 0, 0, 10, 898001, 0, 1, 0])

    def test_gone(self):
        self.assertEqual(last(opening(), hurt(10), status()), [0, 900, 0, 0, 0, 0, 10, 900000, 0, 0, 1])
        self.assertEqual(last(opening(), hurt(9), status()), [0, 900, 0, 1, 0, 0, 10, 900000, 0, 0, 0])
        self.assertEqual(last(opening(), wait(899), status()), [0, 1, 2, 10, 0, 0, 10, 1000, 0, 899, 0])
        self.assertEqual(last(opening(), wait(1000), status()), [0, 0, 3, 10, 0, 0, 10, 0, 0, 900, 1])

    def test_clock_stands_while_gone(self):
        self.assertEqual(last(opening(), wait(3), hurt(10), wait(5), ahead(5), status())[9:], [3, 1])

    def test_healed(self):
        calls = [opening(regen=700), hurt(5)]
        self.assertEqual([last(*calls, wait(ticks), status())[3:9:5] for ticks in range(1, 9)],
                         [[5, 700], [6, 400], [7, 100], [7, 800], [8, 500], [9, 200], [9, 900], [10, 0]])

    def test_healed_is_nothing_at_the_most(self):
        self.assertEqual(last(opening(regen=999), wait(1), status())[8], 0)
        self.assertEqual(last(opening(regen=10000), hurt(3), wait(1), status())[8], 0)

    def test_healed_by_half_and_by_nothing(self):
        calls = [opening(regen=11), wait(600), hurt(1)]
        self.assertEqual([last(*calls, wait(ticks), status())[8] for ticks in (1, 2, 199, 200)], [5, 10, 995, 0])
        # 1 a tick for 600 ticks, half of 1 for 200 more, then nothing.
        calls = [opening(regen=1), hurt(1), wait(600), status(), wait(200), status(), wait(50), status()]
        self.assertEqual([told[8] for told in ask(*calls)[3::2]], [600, 600, 600])

    def test_hurt_leaves_healed(self):
        self.assertEqual(last(opening(regen=700), hurt(5), wait(1), hurt(1), status())[8], 700)

    def test_numbers_are_whole(self):
        for calls in ([opening()], [opening(), hurt(10)]):
            self.assertEqual({type(number) for number in last(*calls, status())}, {int})


class PriceTest(unittest.TestCase):
    def test_accepted(self):
        shops = opening(markup=20, pays=50, weights=(1, 1), prices=(10, 25))
        self.assertEqual(ask(shops, price(0, 1), price(0, 3), price(1, 1), price(1, 2)),
                         [[0], [0, 12, 5], [0, 36, 15], [0, 30, 12], [0, 60, 25]])

    def test_rounded_against_the_dealer(self):
        for base in (1, 3, 7, 99, 100, 101, 999999):
            for n in (1, 2, 33, 99, 100, 101, 9999):
                for markup, pays in ((0, 100), (1, 99), (33, 33), (99, 1), (100, 0), (399, 51)):
                    cost = Fraction(base * n * (100 + markup), 100)
                    gain = Fraction(base * n * pays, 100)
                    told = last(opening(markup=markup, pays=pays, prices=(base,)), price(0, n))
                    with self.subTest(base=base, n=n, markup=markup, pays=pays):
                        self.assertTrue(cost <= told[1] < cost + 1)
                        self.assertTrue(gain - 1 < told[2] <= gain)
                        self.assertEqual(len(told), 3)

    def test_as_the_deals_are(self):
        calls = [opening(markup=33, pays=33, coins=500, shop_coins=500, prices=(7,)), stock(0, 9), price(0, 5),
                 buy(0, 5), sell(0, 5)]
        told = ask(*calls)[2:]
        self.assertEqual(told, [[0, 47, 11], [0, 47], [0, 11]])

    def test_ends_of_the_ranges(self):
        dear = opening(markup=400, pays=100, weights=[0] * 16, prices=[1] + [1000000] * 15)
        self.assertEqual(ask(dear, price(0, 1), price(15, 10000)),
                         [[0], [0, 5, 1], [0, 50000000000, 10000000000]])

    def test_out_of_range(self):
        for kind in BAD_KINDS:
            self.assertEqual(ask(price(kind, 1), opening(weights=[1] * 16), price(kind, 1)), [[-1], [0], [-1]])
        for n in BAD_COUNTS:
            self.assertEqual(ask(price(0, n), opening(), price(0, n), price(1, n)), [[-1], [0], [-1], [-1]])

    def test_no_such_kind(self):
        self.assertEqual(ask(opening(weights=(1, 1)), price(1, 1), price(2, 1), price(15, 1))[2:], [[-5], [-5]])

    def test_gone_does_not_matter(self):
        self.assertEqual(ask(opening(prices=(10,)), hurt(10), price(0, 1), price(1, 1))[2:], [[0, 12, 5], [-5]])

    def test_neither_pack_stock_nor_coins_matter(self):
        calls = [opening(prices=(10,), coins=9999), stock(0, 7), find(0, 8), price(0, 10000)]
        self.assertEqual(last(*calls), [0, 120000, 50000])


class WhenTest(unittest.TestCase):
    def test_at_first(self):
        self.assertEqual(last(opening(), when()), [0, 600, 800, 900, -1])

    def test_rounded_up(self):
        self.assertEqual(last(opening(), drain(1), when()), [0, 600, 800, 900, -1])
        self.assertEqual(last(opening(), drain(5000), when()), [0, 100, 134, 150, -1])
        self.assertEqual(last(opening(), drain(4999), when()), [0, 101, 134, 151, -1])

    def test_load_counts(self):
        self.assertEqual(last(opening(capacity=4), find(0, 6), when()), [0, 300, 400, 450, -1])
        self.assertEqual(last(opening(capacity=4), find(0, 6), drain(5000), when()), [0, 86, 115, 129, -1])

    def test_at_the_edges(self):
        # Fed is 301000, 300000, 299000, then the same round 100000.
        self.assertEqual([last(opening(), wait(ticks), when()) for ticks in (599, 600, 601, 799, 800, 801, 899, 900)],
                         [[0, 1, 201, 301, -1], [0, 0, 200, 300, -1], [0, 0, 199, 299, -1], [0, 0, 1, 101, -1],
                          [0, 0, 0, 100, -1], [0, 0, 0, 99, -1], [0, 0, 0, 1, -1], [0, 0, 0, 0, -1]])

    def test_one_thousandth_above(self):
        # The last tick takes 1999, so fed is 300001, 100001 or 1 thousandth: one tick more is needed.
        self.assertEqual(last(opening(), wait(598), drain(999), wait(1), drain(0), when()), [0, 1, 201, 301, -1])
        self.assertEqual(last(opening(), wait(798), drain(999), wait(1), drain(0), when()), [0, 0, 1, 101, -1])
        self.assertEqual(last(opening(), wait(898), drain(999), wait(1), drain(0), when()), [0, 0, 0, 1, -1])

    def test_fuel_if_lit(self):
        calls = [opening(fuels=(60,)), find(0, 2), fill(0)]
        self.assertEqual(ask(*calls, when(), light(1), when(), wait(10), when(), light(0), when())[3::2],
                         [[0, 600, 800, 900, -1], [0, 600, 800, 900, 60], [0, 590, 790, 890, 50],
                          [0, 590, 790, 890, -1]])
        self.assertEqual(last(*calls, light(1), wait(60), when()), [0, 540, 740, 840, -1])
        self.assertEqual(last(*calls, light(1), wait(59), when()), [0, 541, 741, 841, 1])

    def test_gone_by_wounds(self):
        # The words ask only for the rate as it is now, and that's told of one who is gone, too.
        self.assertEqual(last(opening(), hurt(10), when()), [0, 600, 800, 900, -1])
        self.assertEqual(last(opening(fuels=(60,)), find(0, 1), fill(0), light(1), hurt(10), when()),
                         [0, 600, 800, 900, 60])

    def test_above_the_first_fed(self):
        self.assertEqual(last(opening(foods=(2000,)), find(0, 1), eat(0), when()), [0, 1700, 1900, 2000, -1])

    def test_what_comes_is_told_to_the_tick(self):
        for drained in (0, 1, 7, 250, 999, 1000, 4999, 5000):
            for load in (0, 5, 9, 12, 15):
                carried = [find(0, load)] if load else []
                calls = [opening(capacity=10, weights=(1, 0), foods=(0, 1234)), find(1, 1), eat(1), drain(drained)]
                calls += carried + [wait(3)]
                told = last(*calls, when())
                for place, mood in ((1, 1), (2, 2), (3, 3)):
                    with self.subTest(drained=drained, load=load, mood=mood):
                        self.assertEqual(last(*calls, wait(told[place]))[3], mood)
                        self.assertEqual(last(*calls, ahead(told[place]))[3], mood)
                        self.assertEqual(last(*calls, wait(told[place] - 1))[3], mood - 1)
                        self.assertEqual(last(*calls, ahead(told[place] - 1))[3], mood - 1)
                        self.assertEqual(last(*calls, wait(told[place]), when())[place], 0)
                        self.assertEqual(last(*calls, wait(told[place] - 1), when())[place], 1)

    def test_light_goes_out_to_the_tick(self):
        calls = [opening(fuels=(77,)), find(0, 1), fill(0), light(1), wait(3)]
        told = last(*calls, when())
        self.assertEqual(told[4], 74)
        self.assertEqual(last(*calls, wait(73))[5:], [1, 1])
        self.assertEqual(last(*calls, wait(74))[5:], [0, 0])


class PackTest(unittest.TestCase):
    def test_accepted(self):
        calls = [opening(weights=(1, 1, 1), foods=(1, 0, 0)), pack(), find(0, 3), find(2, 5), pack(), drop(2, 1),
                 eat(0), pack()]
        self.assertEqual(ask(*calls)[1::3], [[0, 0, 0, 0], [0, 3, 0, 5], [0, 2, 0, 4]])

    def test_one_kind_and_sixteen(self):
        self.assertEqual(last(opening(), pack()), [0, 0])
        self.assertEqual(last(opening(weights=[0] * 16), find(15, 10000), pack()), [0] + [0] * 15 + [10000])

    def test_gone_does_not_matter(self):
        self.assertEqual(last(opening(), find(0, 4), hurt(10), pack()), [0, 4])

    def test_the_stock_is_not_in_it(self):
        self.assertEqual(last(opening(), stock(0, 4), pack()), [0, 0])


class BurdenTest(unittest.TestCase):
    def test_accepted(self):
        calls = [opening(capacity=100, coins=1099, weights=(10, 3)), burden(), find(0, 5), burden(), find(1, 11),
                 burden(), drain(77), burden()]
        self.assertEqual(ask(*calls)[1::2],
                         [[0, 10, 0, 1000], [0, 60, 1, 1250], [0, 93, 2, 1500], [0, 93, 2, 1577]])

    def test_each_step(self):
        for capacity in (1, 2, 3, 4, 5, 7, 10, 100, 101):
            for weight in range(1, 3 * capacity // 2 + 1):
                load = sum(1 for quarters in (2, 3, 4, 5) if weight > Fraction(capacity * quarters, 4))
                with self.subTest(capacity=capacity, weight=weight):
                    self.assertEqual(last(opening(capacity=capacity), find(0, weight), burden()),
                                     [0, weight, load, 1000 + 250 * load])

    def test_coins_alone(self):
        for coins, weight in ((0, 0), (99, 0), (100, 1), (199, 1), (10 ** 12, 10 ** 10)):
            with self.subTest(coins=coins):
                self.assertEqual(last(opening(capacity=100000, coins=coins), burden())[:2], [0, weight])
        self.assertEqual(last(opening(capacity=1, coins=10 ** 12), burden()), [0, 10 ** 10, 4, 2000])

    def test_gone_does_not_matter(self):
        self.assertEqual(last(opening(capacity=4), find(0, 4), hurt(10), burden()), [0, 4, 2, 1500])


class WorthTest(unittest.TestCase):
    def test_accepted(self):
        calls = [opening(coins=7, shop_coins=99, weights=(1, 1), prices=(10, 25)), worth(), find(0, 3), worth(),
                 find(1, 2), worth(), drop(0, 1), worth()]
        self.assertEqual(ask(*calls)[1::2], [[0, 7, 7], [0, 37, 7], [0, 87, 7], [0, 77, 7]])

    def test_neither_markup_nor_stock_counts(self):
        self.assertEqual(last(opening(markup=400, pays=0, prices=(9,)), find(0, 2), stock(0, 5), worth()), [0, 18, 0])

    def test_the_most(self):
        calls = [opening(capacity=100000, coins=15000099, weights=[0] * 16, prices=[1000000] * 16)]
        calls += [find(kind, 10000) for kind in range(16)] + [worth()]
        self.assertEqual(last(*calls), [0, 16 * 10 ** 10 + 15000099, 15000099])
        self.assertEqual(last(opening(coins=10 ** 12), worth()), [0, 10 ** 12, 10 ** 12])

    def test_gone_does_not_matter(self):
        self.assertEqual(last(opening(coins=5, prices=(9,)), find(0, 2), hurt(10), worth()), [0, 23, 5])


class ShopTest(unittest.TestCase):
    def test_accepted(self):
        calls = [opening(coins=100, shop_coins=20, markup=0, pays=100, weights=(1, 1), prices=(3, 5)), shop(),
                 stock(1, 9), shop(), buy(1, 4), shop(), find(0, 2), shop(), sell(0, 2), shop()]
        self.assertEqual(ask(*calls)[1::2],
                         [[0, 20, 0, 0], [0, 20, 0, 9], [0, 40, 0, 5], [0, 40, 0, 5], [0, 34, 2, 5]])

    def test_one_kind_and_sixteen(self):
        self.assertEqual(last(opening(shop_coins=10 ** 12), shop()), [0, 10 ** 12, 0])
        self.assertEqual(last(opening(weights=[0] * 16), stock(15, 10000), shop()), [0, 0] + [0] * 15 + [10000])

    def test_gone_does_not_matter(self):
        self.assertEqual(last(opening(shop_coins=5), stock(0, 4), hurt(10), shop()), [0, 5, 4])


class AheadTest(unittest.TestCase):
    def test_accepted(self):
        calls = [opening(regen=500, fuels=(60,)), find(0, 1), fill(0), light(1), hurt(5), ahead(12), ahead(3)]
        self.assertEqual(ask(*calls)[-2:], [[0, 12, 888, 0, 10, 1, 48], [0, 3, 897, 0, 6, 2, 57]])

    def test_ends_of_the_range(self):
        self.assertEqual(ask(opening(), ahead(1), ahead(1000000))[1:],
                         [[0, 1, 899, 0, 10, 0, 0], [0, 900, 0, 3, 10, 0, 0]])

    def test_out_of_range(self):
        for ticks in BAD_TICKS:
            self.assertEqual(ask(ahead(ticks), opening(), ahead(ticks), hurt(10), ahead(ticks)),
                             [[-1], [0], [-1], [0, 0], [-1]])

    def test_as_wait_would(self):
        for name, calls in HOUSES.items():
            if last(*calls, status())[10] == 1:
                continue
            for ticks in (1, 2, 3, 4, 50, 51, 119, 120, 200, 899, 900, 1000000):
                with self.subTest(house=name, ticks=ticks):
                    told = ask(*calls, ahead(ticks), wait(ticks))
                    self.assertEqual(told[-2], told[-1])
                    self.assertEqual(told[-1], last(*calls, wait(ticks)))

    def test_gone_by_hunger(self):
        self.assertEqual(ask(opening(), wait(900), wait(1), ahead(1), ahead(1000000))[2:],
                         [[-9], [0, 0, 0, 3, 10, 0, 0], [0, 0, 0, 3, 10, 0, 0]])

    def test_gone_by_wounds(self):
        calls = [opening(regen=10000, fuels=(60,)), find(0, 1), fill(0), light(1), wait(4), hurt(10)]
        self.assertEqual(ask(*calls, wait(1), ahead(1), ahead(1000000), status())[6:],
                         [[-9], [0, 0, 896, 0, 0, 2, 56], [0, 0, 896, 0, 0, 2, 56],
                          [0, 896, 0, 0, 2, 56, 10, 896000, 0, 4, 1]])


if __name__ == "__main__":
    unittest.main()
