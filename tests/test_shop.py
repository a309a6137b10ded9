"""Calls 9 to 11: buy, sell, stock."""

import unittest

from tests.helper import (ASKED, HUGE, ask, ask_house, burden, buy, drain, drop, find, hurt, last, opening, pack, sell,
                          shop, stock, stocked, wait, worth)


def kept(house):
    return (list(house.stock), list(house.pack), house.coins, house.shop_coins)


class ShopCase(unittest.TestCase):
    def assertRefused(self, house, call, refusal):
        before = dict(vars(house))
        before["stock"] = list(house.stock)
        before["pack"] = list(house.pack)
        self.assertEqual(ask_house(house, call), [refusal])
        self.assertEqual(vars(house), before)


class BuyTest(ShopCase):
    def test_accepted(self):
        house = stocked([5, 9], coins=1000, shop_coins=40, markup=20, weights=(1, 2), prices=(10, 25))
        self.assertEqual(ask_house(house, buy(1, 4)), [0, 120])
        self.assertEqual(kept(house), ([5, 5], [0, 4], 880, 160))
        self.assertEqual(ask_house(house, buy(0, 5)), [0, 60])
        self.assertEqual(kept(house), ([0, 5], [5, 4], 820, 220))
        self.assertEqual(ask_house(house, drop(1, 4)), [0, 0])

    def test_cost_is_rounded_up(self):
        for price, n, markup, cost in ((1, 1, 0, 1), (1, 1, 1, 2), (1, 1, 99, 2), (1, 1, 100, 2), (1, 1, 101, 3),
                                       (1, 1, 400, 5), (3, 7, 33, 28), (1, 100, 1, 101), (1, 99, 1, 100),
                                       (1, 50, 1, 51), (10, 10, 0, 100), (7, 3, 20, 26)):
            house = stocked([100], coins=1000, markup=markup, prices=(price,))
            with self.subTest(price=price, n=n, markup=markup):
                self.assertEqual(ask_house(house, buy(0, n)), [0, cost])
                self.assertEqual(kept(house), ([100 - n], [n], 1000 - cost, cost))

    def test_each_deal_is_rounded_by_itself(self):
        house = stocked([10], coins=1000, markup=1)
        self.assertEqual([ask_house(house, buy(0, 1)) for deal in range(3)], [[0, 2]] * 3)
        self.assertEqual(ask_house(house, buy(0, 3)), [0, 4])
        self.assertEqual(house.coins, 990)

    def test_the_dearest(self):
        house = stocked([10000], coins=10 ** 12, shop_coins=10 ** 12, markup=400, weights=(0,), prices=(1000000,),
                        capacity=100000)
        self.assertRefused(house, buy(0, 10000), -7)
        house.coins = 5 * 10 ** 10
        self.assertEqual(ask_house(house, buy(0, 10000)), [0, 5 * 10 ** 10])
        self.assertEqual(kept(house), ([0], [10000], 0, 10 ** 12 + 5 * 10 ** 10))

    def test_ends_of_the_ranges(self):
        house = stocked([10000] * 16, coins=20000, markup=0, weights=[0] * 16)
        self.assertEqual(ask_house(house, buy(0, 1)), [0, 1])
        self.assertEqual(ask_house(house, buy(15, 10000)), [0, 10000])

    def test_out_of_range(self):
        for kind in (-1, 16, HUGE, -HUGE):
            self.assertEqual(ask(buy(kind, 1), opening(), buy(kind, 1), hurt(10), buy(kind, 1)),
                             [[-1], [0], [-1], [0, 0], [-1]])
            self.assertRefused(stocked([5], coins=100), buy(kind, 1), -1)
        for n in (0, -1, 10001, HUGE, -HUGE):
            self.assertEqual(ask(buy(0, n), opening(), buy(0, n), buy(9, n), hurt(10), buy(0, n)),
                             [[-1], [0], [-1], [-1], [0, 0], [-1]])
            self.assertRefused(stocked([5], coins=100), buy(0, n), -1)

    def test_not_open(self):
        self.assertEqual(ask(buy(0, 1), buy(15, 10000)), [[-2], [-2]])

    def test_no_such_kind(self):
        self.assertEqual(ask(opening(weights=(1, 1)), buy(2, 1), buy(15, 1)), [[0], [-5], [-5]])

    def test_no_such_kind_comes_before_gone(self):
        self.assertEqual(last(opening(), hurt(10), buy(1, 1)), [-5])

    def test_gone(self):
        for call in (hurt(10), wait(900)):
            house = stocked([5], coins=100)
            ask_house(house, call)
            self.assertRefused(house, buy(0, 1), -9)

    def test_gone_comes_before_too_few(self):
        self.assertEqual(last(opening(), hurt(10), buy(0, 1)), [-9])

    def test_nothing_in_stock_at_first(self):
        self.assertEqual(ask(opening(weights=(0, 0), coins=100), buy(0, 1), buy(1, 10000)), [[0], [-6], [-6]])

    def test_things_in_the_pack_are_not_in_stock(self):
        self.assertEqual(ask(opening(coins=100), find(0, 5), buy(0, 1), drop(0, 5)),
                         [[0], [0, 5], [-6], [0, 0]])

    def test_too_few_in_stock(self):
        house = stocked([3, 9], coins=100, weights=(1, 1))
        self.assertRefused(house, buy(0, 4), -6)
        self.assertEqual(ask_house(house, buy(0, 3)), [0, 4])

    def test_too_few_in_stock_comes_before_too_few_coins(self):
        self.assertRefused(stocked([3]), buy(0, 4), -6)
        self.assertRefused(stocked([3]), buy(0, 3), -10)

    def test_too_few_coins(self):
        house = stocked([9], coins=9, markup=50)
        self.assertRefused(house, buy(0, 7), -10)
        self.assertEqual(ask_house(house, buy(0, 6)), [0, 9])
        self.assertEqual(kept(house), ([3], [6], 0, 9))
        self.assertRefused(house, buy(0, 1), -10)

    def test_rounding_up_may_be_too_dear(self):
        self.assertRefused(stocked([1], coins=1, markup=1), buy(0, 1), -10)

    def test_too_few_coins_comes_before_too_many_and_too_heavy(self):
        house = stocked([9], weights=(0,))
        self.assertEqual(ask_house(house, find(0, 10000)), [0, 10000])
        self.assertRefused(house, buy(0, 1), -10)
        self.assertRefused(stocked([9], capacity=1, weights=(1000,)), buy(0, 1), -10)

    def test_ten_thousand(self):
        house = stocked([9], coins=100, weights=(0,))
        self.assertEqual(ask_house(house, find(0, 9999)), [0, 9999])
        self.assertRefused(house, buy(0, 2), -4)
        self.assertEqual(ask_house(house, buy(0, 1)), [0, 2])
        self.assertRefused(house, buy(0, 1), -4)

    def test_too_many_comes_before_too_heavy(self):
        house = stocked([9], coins=99, capacity=100000, weights=(15,))
        self.assertEqual(ask_house(house, find(0, 10000)), [0, 10000])
        self.assertRefused(house, buy(0, 1), -4)

    def test_too_heavy(self):
        house = stocked([20], coins=50, capacity=10, markup=0)
        self.assertRefused(house, buy(0, 16), -7)
        self.assertEqual(ask_house(house, buy(0, 15)), [0, 15])
        self.assertRefused(house, buy(0, 1), -7)

    def test_half_of_an_odd_capacity(self):
        house = stocked([20], coins=50, capacity=11, markup=0)
        self.assertRefused(house, buy(0, 17), -7)
        self.assertEqual(ask_house(house, buy(0, 16)), [0, 16])

    def test_coins_that_are_paid_do_not_weigh(self):
        # 1600 coins weigh 16, too much for 10; with 1 paid they weigh 15.
        house = stocked([2], coins=1600, capacity=10, markup=0, weights=(0,))
        self.assertEqual(ask_house(house, find(0, 1)), [-7])
        self.assertEqual(ask_house(house, buy(0, 1)), [0, 1])
        house = stocked([2], coins=1601, capacity=10, markup=0, weights=(0,))
        self.assertRefused(house, buy(0, 1), -7)
        self.assertEqual(ask_house(house, buy(0, 2)), [0, 2])

    def test_coins_that_are_kept_weigh(self):
        house = stocked([20], coins=1000, capacity=10, markup=0)
        # 6 things and 994 coins weigh 6 and 9; 7 would weigh 16.
        self.assertRefused(house, buy(0, 7), -7)
        self.assertEqual(ask_house(house, buy(0, 6)), [0, 6])
        self.assertEqual(ask_house(house, drain(0)), [0, 2000])

    def test_in_a_line_of_calls(self):
        calls = [opening(coins=1000, shop_coins=40, markup=20, weights=(1, 2), prices=(10, 25)), stock(1, 9),
                 buy(1, 10), buy(1, 4), pack(), shop(), worth(), burden(), buy(1, 6), buy(0, 1)]
        self.assertEqual(ask(*calls), [[0], [0, 9], [-6], [0, 120], [0, 0, 4], [0, 160, 0, 5], [0, 980, 880],
                                       [0, 16, 0, 1000], [-6], [-6]])

    def test_each_refusal_in_a_line_of_calls(self):
        refused = (
            ([opening(weights=(1,)), stock(0, 5), hurt(10)], buy(1, 1), -5),
            ([opening(), stock(0, 5), hurt(10)], buy(0, 6), -9),
            ([opening(), stock(0, 5)], buy(0, 6), -6),
            ([opening(weights=(0,), coins=1), stock(0, 5), find(0, 10000)], buy(0, 1), -10),
            ([opening(weights=(15,), capacity=100000, coins=2), stock(0, 5), find(0, 10000)], buy(0, 1), -4),
            ([opening(capacity=1, weights=(2,), coins=2), stock(0, 5)], buy(0, 1), -7),
        )
        for calls, call, refusal in refused:
            with self.subTest(refusal=refusal):
                told = ask(*calls, *ASKED, call, *ASKED)[len(calls):]
                self.assertEqual(told[len(ASKED)], [refusal])
                self.assertEqual(told[:len(ASKED)], told[len(ASKED) + 1:])


class SellTest(ShopCase):
    def test_accepted(self):
        calls = [opening(coins=10, shop_coins=100, pays=50, weights=(1, 2), prices=(10, 25)), find(0, 8), find(1, 3),
                 sell(0, 5), pack(), shop(), worth(), burden(), sell(1, 3), pack(), shop(), worth(), burden()]
        self.assertEqual(ask(*calls)[3:],
                         [[0, 25], [0, 3, 3], [0, 75, 5, 0], [0, 140, 35], [0, 9, 0, 1000],
                          [0, 37], [0, 3, 0], [0, 38, 5, 3], [0, 102, 72], [0, 3, 0, 1000]])

    def test_gain_is_rounded_down(self):
        for base, n, pays, gain in ((1, 1, 100, 1), (1, 1, 99, 0), (1, 1, 0, 0), (1, 2, 50, 1), (1, 3, 50, 1),
                                    (7, 3, 33, 6), (1, 100, 1, 1), (1, 99, 1, 0), (1, 199, 1, 1), (10, 10, 100, 100),
                                    (1000000, 3, 7, 210000)):
            calls = [opening(capacity=100000, pays=pays, prices=(base,), shop_coins=1000000), find(0, n), sell(0, n),
                     worth(), shop()]
            with self.subTest(base=base, n=n, pays=pays):
                self.assertEqual(ask(*calls)[2:], [[0, gain], [0, gain, gain], [0, 1000000 - gain, n]])

    def test_each_deal_is_rounded_by_itself(self):
        calls = [opening(pays=50, prices=(3,), shop_coins=100), find(0, 8)] + [sell(0, 1)] * 4 + [sell(0, 4), worth()]
        self.assertEqual(ask(*calls)[2:], [[0, 1]] * 4 + [[0, 6], [0, 10, 10]])

    def test_the_dearest(self):
        # 15000000 coins weigh 150000, the most that the largest capacity bears.
        calls = [opening(capacity=100000, weights=(0,), prices=(1000000,), pays=100, shop_coins=10 ** 12),
                 find(0, 10000), sell(0, 10000), sell(0, 16), sell(0, 15), worth(), shop()]
        self.assertEqual(ask(*calls)[1:], [[0, 10000], [-7], [-7], [0, 15000000], [0, 10 ** 10, 15000000],
                                           [0, 10 ** 12 - 15000000, 15]])

    def test_other_kinds_stay(self):
        self.assertEqual(ask(opening(shop_coins=9, pays=100, weights=(1, 1)), find(0, 3), stock(1, 8), sell(0, 2),
                             shop())[3:], [[0, 2], [0, 7, 2, 8]])

    def test_ends_of_the_ranges(self):
        calls = [opening(weights=[0] * 16, pays=100, shop_coins=20000), find(0, 1), find(15, 10000), sell(0, 1),
                 sell(15, 10000), shop(), pack()]
        self.assertEqual(ask(*calls)[3:],
                         [[0, 1], [0, 10000], [0, 9999, 1] + [0] * 14 + [10000], [0] + [0] * 16])

    def test_out_of_range(self):
        for kind in (-1, 16, HUGE, -HUGE):
            self.assertEqual(ask(sell(kind, 1), opening(weights=[1] * 16), sell(kind, 1), hurt(10), sell(kind, 1)),
                             [[-1], [0], [-1], [0, 0], [-1]])
        for n in (0, -1, 10001, HUGE, -HUGE):
            self.assertEqual(ask(sell(0, n), opening(), sell(0, n), sell(9, n), hurt(10), sell(0, n)),
                             [[-1], [0], [-1], [-1], [0, 0], [-1]])

    def test_not_open(self):
        self.assertEqual(ask(sell(0, 1), sell(15, 10000)), [[-2], [-2]])

    def test_no_such_kind(self):
        self.assertEqual(ask(opening(weights=(1, 1)), sell(1, 1), sell(2, 1), sell(15, 1)), [[0], [-6], [-5], [-5]])

    def test_no_such_kind_comes_before_gone(self):
        self.assertEqual(last(opening(), hurt(10), sell(1, 1)), [-5])

    def test_gone(self):
        for call in (hurt(10), wait(900)):
            house = stocked([5], shop_coins=100)
            ask_house(house, find(0, 5))
            ask_house(house, call)
            self.assertRefused(house, sell(0, 1), -9)

    def test_gone_comes_before_too_few(self):
        self.assertEqual(last(opening(), hurt(10), sell(0, 1)), [-9])

    def test_too_few_in_the_pack(self):
        house = stocked([9, 9], weights=(1, 1), shop_coins=100, pays=100)
        self.assertRefused(house, sell(0, 1), -6)
        ask_house(house, find(0, 3))
        ask_house(house, find(1, 9))
        self.assertRefused(house, sell(0, 4), -6)
        self.assertEqual(ask_house(house, sell(0, 3)), [0, 3])
        self.assertRefused(house, sell(0, 1), -6)

    def test_too_few_comes_before_too_few_coins(self):
        self.assertEqual(last(opening(pays=100), find(0, 3), sell(0, 4)), [-6])
        self.assertEqual(last(opening(pays=100), find(0, 3), sell(0, 3)), [-10])

    def test_too_few_coins(self):
        house = stocked([0], prices=(3,), pays=100, coins=500, shop_coins=6)
        ask_house(house, find(0, 5))
        self.assertRefused(house, sell(0, 3), -10)
        self.assertEqual(ask_house(house, sell(0, 2)), [0, 6])
        self.assertEqual(kept(house), ([2], [3], 506, 0))
        self.assertRefused(house, sell(0, 1), -10)

    def test_a_shop_without_coins_takes_what_it_gets_for_nothing(self):
        self.assertEqual(ask(opening(pays=0), find(0, 5), sell(0, 5), shop())[2:], [[0, 0], [0, 0, 5]])
        self.assertEqual(ask(opening(pays=50), find(0, 5), sell(0, 1), sell(0, 2))[2:], [[0, 0], [-10]])

    def test_too_few_coins_comes_before_too_many_and_too_heavy(self):
        house = stocked([10000], pays=100)
        ask_house(house, find(0, 1))
        self.assertRefused(house, sell(0, 1), -10)
        self.assertEqual(last(opening(capacity=1, coins=99, pays=100, prices=(1000,)), find(0, 1), sell(0, 1)), [-10])

    def test_ten_thousand(self):
        house = stocked([9999], weights=(0,), pays=100, shop_coins=100)
        ask_house(house, find(0, 3))
        self.assertRefused(house, sell(0, 2), -4)
        self.assertEqual(ask_house(house, sell(0, 1)), [0, 1])
        self.assertEqual(kept(house), ([10000], [2], 1, 99))
        self.assertRefused(house, sell(0, 1), -4)

    def test_too_many_comes_before_too_heavy(self):
        house = stocked([10000], capacity=1, prices=(200,), pays=100, shop_coins=200)
        ask_house(house, find(0, 1))
        self.assertRefused(house, sell(0, 1), -4)
        house = stocked([9999], capacity=1, prices=(200,), pays=100, shop_coins=200)
        ask_house(house, find(0, 1))
        self.assertRefused(house, sell(0, 1), -7)

    def test_coins_that_one_gets_weigh(self):
        # Up to 15 isn't too much for 10; 1599 coins weigh 15, and 1600 weigh 16.
        for base, answer in ((1599, [0, 1599]), (1600, [-7])):
            calls = [opening(capacity=10, weights=(0,), prices=(base,), pays=100, shop_coins=10000), find(0, 1),
                     sell(0, 1)]
            with self.subTest(base=base):
                self.assertEqual(last(*calls), answer)
        calls = [opening(capacity=10, coins=99, prices=(1,), pays=100, shop_coins=10000), find(0, 15)]
        self.assertEqual(ask(*calls, sell(0, 1), burden())[2:], [[0, 1], [0, 15, 4, 2000]])

    def test_things_that_are_sold_do_not_weigh(self):
        # 15 in all before; 5 fewer and 500 coins more weigh 15 too, 600 would weigh 16.
        for base, answer in ((100, [0, 500]), (119, [0, 595]), (120, [-7])):
            calls = [opening(capacity=10, prices=(base,), pays=100, shop_coins=10000), find(0, 15), sell(0, 5)]
            with self.subTest(base=base):
                self.assertEqual(last(*calls), answer)

    def test_half_of_an_odd_capacity(self):
        for base, answer in ((1699, [0, 1699]), (1700, [-7])):
            calls = [opening(capacity=11, prices=(base,), pays=100, shop_coins=10000), find(0, 1), sell(0, 1)]
            with self.subTest(base=base):
                self.assertEqual(last(*calls), answer)

    def test_sold_may_be_bought_again(self):
        calls = [opening(coins=100, shop_coins=100, pays=50, markup=50, prices=(10,)), find(0, 4), sell(0, 4),
                 buy(0, 3), pack(), shop(), worth()]
        self.assertEqual(ask(*calls)[2:], [[0, 20], [0, 45], [0, 3], [0, 125, 1], [0, 105, 75]])


class StockTest(ShopCase):
    def test_accepted(self):
        self.assertEqual(ask(opening(weights=(1, 1), shop_coins=7), stock(0, 3), stock(1, 4), stock(0, 2), shop()),
                         [[0], [0, 3], [0, 4], [0, 5], [0, 7, 5, 4]])

    def test_nothing_else_changes(self):
        told = ask(opening(coins=7, shop_coins=9), find(0, 2), *ASKED, stock(0, 5), *ASKED)[2:]
        self.assertEqual(told[:5], told[7:12])
        self.assertEqual((told[5], told[12]), ([0, 9, 0], [0, 9, 5]))

    def test_ends_of_the_ranges(self):
        self.assertEqual(ask(opening(weights=[1000] * 16), stock(0, 1), stock(15, 10000), shop()),
                         [[0], [0, 1], [0, 10000], [0, 0, 1] + [0] * 14 + [10000]])

    def test_out_of_range(self):
        for kind in (-1, 16, HUGE, -HUGE):
            self.assertEqual(ask(stock(kind, 1), opening(weights=[1] * 16), stock(kind, 1), shop()),
                             [[-1], [0], [-1], [0, 0] + [0] * 16])
        for n in (0, -1, 10001, HUGE, -HUGE):
            self.assertEqual(ask(stock(0, n), opening(), stock(0, n), stock(1, n), shop()),
                             [[-1], [0], [-1], [-1], [0, 0, 0]])

    def test_not_open(self):
        self.assertEqual(ask(stock(0, 1), stock(15, 10000), opening(), shop()), [[-2], [-2], [0], [0, 0, 0]])

    def test_no_such_kind(self):
        self.assertEqual(ask(opening(weights=(1, 1)), stock(1, 1), stock(2, 1), stock(15, 10000), shop()),
                         [[0], [0, 1], [-5], [-5], [0, 0, 0, 1]])

    def test_ten_thousand(self):
        self.assertEqual(ask(opening(), stock(0, 9999), stock(0, 2), stock(0, 1), stock(0, 1), shop()),
                         [[0], [0, 9999], [-4], [0, 10000], [-4], [0, 0, 10000]])

    def test_of_one_kind_and_in_the_stock_alone(self):
        self.assertEqual(ask(opening(weights=(0, 0)), find(0, 10000), stock(1, 10000), stock(0, 10000))[1:],
                         [[0, 10000]] * 3)

    def test_gone_does_not_matter(self):
        self.assertEqual(ask(opening(), hurt(10), stock(0, 3), stock(1, 1), shop())[2:], [[0, 3], [-5], [0, 0, 3]])
        self.assertEqual(last(opening(), wait(900), stock(0, 3)), [0, 3])

    def test_the_stock_does_not_weigh(self):
        self.assertEqual(ask(opening(capacity=1, weights=(1000,)), stock(0, 10000), burden())[1:],
                         [[0, 10000], [0, 0, 0, 1000]])


class ToAndFroTest(unittest.TestCase):
    PRICES = (1, 3, 99, 101)

    def each_shop(self):
        for markup in (0, 1, 33, 100, 400):
            for pays in (0, 1, 50, 99, 100):
                yield markup, pays, opening(capacity=100000, markup=markup, pays=pays, coins=100000, shop_coins=100000,
                                            weights=(0, 0, 0, 0), prices=self.PRICES)

    def test_bought_and_sold_gains_nothing(self):
        for markup, pays, call in self.each_shop():
            for kind in range(len(self.PRICES)):
                for n in (1, 2, 7, 100):
                    told = ask(call, stock(kind, n), worth(), buy(kind, n), sell(kind, n), worth(), shop())
                    with self.subTest(markup=markup, pays=pays, kind=kind, n=n):
                        self.assertLessEqual(told[4][1], told[3][1])
                        self.assertEqual(told[5], [0] + [100000 - told[3][1] + told[4][1]] * 2)
                        self.assertLessEqual(told[5][1], told[2][1])
                        self.assertEqual(told[5][2] + told[6][1], 200000)

    def test_many_small_deals_are_no_better_than_few(self):
        for markup, pays, call in self.each_shop():
            for kind in range(len(self.PRICES)):
                told = ask(call, stock(kind, 24), *[buy(kind, 1)] * 12, buy(kind, 12), *[sell(kind, 1)] * 12,
                           sell(kind, 12))[2:]
                with self.subTest(markup=markup, pays=pays, kind=kind):
                    self.assertGreaterEqual(sum(answer[1] for answer in told[:12]), told[12][1])
                    self.assertLessEqual(sum(answer[1] for answer in told[13:25]), told[25][1])

    def test_no_deal_makes_one_worth_more(self):
        for markup, pays, call in self.each_shop():
            deals = []
            for turn in range(60):
                kind = turn % len(self.PRICES)
                n = 1 + turn * turn % 13
                deals += [buy(kind, n), worth(), sell((kind + turn // 7) % len(self.PRICES), 1 + n // 2), worth()]
            told = ask(call, *[stock(kind, 500) for kind in range(len(self.PRICES))], worth(), *deals)[5:]
            worths = [answer[1] for answer in told[::2]]
            with self.subTest(markup=markup, pays=pays):
                self.assertEqual(worths, sorted(worths, reverse=True))

    def test_nothing_is_lost_where_the_shop_takes_nothing(self):
        told = ask(opening(markup=0, pays=100, coins=500, weights=(1,), prices=(7,)), stock(0, 9), worth(), buy(0, 4),
                   sell(0, 1), sell(0, 3), worth(), shop())[2:]
        self.assertEqual(told, [[0, 500, 500], [0, 28], [0, 7], [0, 21], [0, 500, 500], [0, 0, 9]])


if __name__ == "__main__":
    unittest.main()
