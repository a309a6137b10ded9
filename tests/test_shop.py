"""Call 9: buy. No call before 10 brings anything into the stock, so the tests lay it in themselves."""

import unittest

from tests.helper import HUGE, ask, ask_house, buy, drain, drop, find, hurt, last, opening, stocked, wait


def kept(house):
    return (list(house.stock), list(house.pack), house.coins, house.shop_coins)


class BuyTest(unittest.TestCase):
    def assertRefused(self, house, call, refusal):
        before = dict(vars(house))
        before["stock"] = list(house.stock)
        before["pack"] = list(house.pack)
        self.assertEqual(ask_house(house, call), [refusal])
        self.assertEqual(vars(house), before)

    def test_accepted(self):
        house = stocked([5, 9], coins=1000, shop_coins=40, markup=20, weights=(1, 2), prices=(10, 25))
        self.assertEqual(ask_house(house, buy(1, 4)), [0, 120])
        self.assertEqual(kept(house), ([5, 5], [0, 4], 880, 160))
        self.assertEqual(ask_house(house, buy(0, 5)), [0, 60])
        self.assertEqual(kept(house), ([0, 5], [5, 4], 820, 220))
        self.assertEqual(ask_house(house, drop(1, 4)), [0, 0])

    def test_cost_is_rounded_up(self):
        for price, n, markup, cost in ((1, 1, 0, 1), (1, 1, 1, 2), (1, 1, 99, 2), (1, 1, 100, 2), (1, 1, 101, 3),
                                       (1, 1, 400, 5), (3, 7, 33, 28), (1, 100, 1, 101), (1, 99, 1, 100),
                                       (1, 50, 1, 51), (10, 10, 0, 100), (7, 3, 20, 26)):
            house = stocked([100], coins=1000, markup=markup, prices=(price,))
            with self.subTest(price=price, n=n, markup=markup):
                self.assertEqual(ask_house(house, buy(0, n)), [0, cost])
                self.assertEqual(kept(house), ([100 - n], [n], 1000 - cost, cost))

    def test_each_deal_is_rounded_by_itself(self):
        house = stocked([10], coins=1000, markup=1)
        self.assertEqual([ask_house(house, buy(0, 1)) for deal in range(3)], [[0, 2]] * 3)
        self.assertEqual(ask_house(house, buy(0, 3)), [0, 4])
        self.assertEqual(house.coins, 990)

    def test_the_dearest(self):
        house = stocked([10000], coins=10 ** 12, shop_coins=10 ** 12, markup=400, weights=(0,), prices=(1000000,),
                        capacity=100000)
        self.assertRefused(house, buy(0, 10000), -7)
        house.coins = 5 * 10 ** 10
        self.assertEqual(ask_house(house, buy(0, 10000)), [0, 5 * 10 ** 10])
        self.assertEqual(kept(house), ([0], [10000], 0, 10 ** 12 + 5 * 10 ** 10))

    def test_ends_of_the_ranges(self):
        house = stocked([10000] * 16, coins=20000, markup=0, weights=[0] * 16)
        self.assertEqual(ask_house(house, buy(0, 1)), [0, 1])
        self.assertEqual(ask_house(house, buy(15, 10000)), [0, 10000])

    def test_out_of_range(self):
        for kind in (-1, 16, HUGE, -HUGE):
            self.assertEqual(ask(buy(kind, 1), opening(), buy(kind, 1), hurt(10), buy(kind, 1)),
                             [[-1], [0], [-1], [0, 0], [-1]])
            self.assertRefused(stocked([5], coins=100), buy(kind, 1), -1)
        for n in (0, -1, 10001, HUGE, -HUGE):
            self.assertEqual(ask(buy(0, n), opening(), buy(0, n), buy(9, n), hurt(10), buy(0, n)),
                             [[-1], [0], [-1], [-1], [0, 0], [-1]])
            self.assertRefused(stocked([5], coins=100), buy(0, n), -1)

    def test_not_open(self):
        self.assertEqual(ask(buy(0, 1), buy(15, 10000)), [[-2], [-2]])

    def test_no_such_kind(self):
        self.assertEqual(ask(opening(weights=(1, 1)), buy(2, 1), buy(15, 1)), [[0], [-5], [-5]])

    def test_no_such_kind_comes_before_gone(self):
        self.assertEqual(last(opening(), hurt(10), buy(1, 1)), [-5])

    def test_gone(self):
        for call in (hurt(10), wait(900)):
            house = stocked([5], coins=100)
            ask_house(house, call)
            self.assertRefused(house, buy(0, 1), -9)

    def test_gone_comes_before_too_few(self):
        self.assertEqual(last(opening(), hurt(10), buy(0, 1)), [-9])

    def test_nothing_in_stock_at_first(self):
        self.assertEqual(ask(opening(weights=(0, 0), coins=100), buy(0, 1), buy(1, 10000)), [[0], [-6], [-6]])

    def test_things_in_the_pack_are_not_in_stock(self):
        self.assertEqual(ask(opening(coins=100), find(0, 5), buy(0, 1), drop(0, 5)),
                         [[0], [0, 5], [-6], [0, 0]])

    def test_too_few_in_stock(self):
        house = stocked([3, 9], coins=100, weights=(1, 1))
        self.assertRefused(house, buy(0, 4), -6)
        self.assertEqual(ask_house(house, buy(0, 3)), [0, 4])

    def test_too_few_in_stock_comes_before_too_few_coins(self):
        self.assertRefused(stocked([3]), buy(0, 4), -6)
        self.assertRefused(stocked([3]), buy(0, 3), -10)

    def test_too_few_coins(self):
        house = stocked([9], coins=9, markup=50)
        self.assertRefused(house, buy(0, 7), -10)
        self.assertEqual(ask_house(house, buy(0, 6)), [0, 9])
        self.assertEqual(kept(house), ([3], [6], 0, 9))
        self.assertRefused(house, buy(0, 1), -10)

    def test_rounding_up_may_be_too_dear(self):
        self.assertRefused(stocked([1], coins=1, markup=1), buy(0, 1), -10)

    def test_too_few_coins_comes_before_too_many_and_too_heavy(self):
        house = stocked([9], weights=(0,))
        self.assertEqual(ask_house(house, find(0, 10000)), [0, 10000])
        self.assertRefused(house, buy(0, 1), -10)
        self.assertRefused(stocked([9], capacity=1, weights=(1000,)), buy(0, 1), -10)

    def test_ten_thousand(self):
        house = stocked([9], coins=100, weights=(0,))
        self.assertEqual(ask_house(house, find(0, 9999)), [0, 9999])
        self.assertRefused(house, buy(0, 2), -4)
        self.assertEqual(ask_house(house, buy(0, 1)), [0, 2])
        self.assertRefused(house, buy(0, 1), -4)

    def test_too_many_comes_before_too_heavy(self):
        house = stocked([9], coins=99, capacity=100000, weights=(15,))
        self.assertEqual(ask_house(house, find(0, 10000)), [0, 10000])
        self.assertRefused(house, buy(0, 1), -4)

    def test_too_heavy(self):
        house = stocked([20], coins=50, capacity=10, markup=0)
        self.assertRefused(house, buy(0, 16), -7)
        self.assertEqual(ask_house(house, buy(0, 15)), [0, 15])
        self.assertRefused(house, buy(0, 1), -7)

    def test_half_of_an_odd_capacity(self):
        house = stocked([20], coins=50, capacity=11, markup=0)
        self.assertRefused(house, buy(0, 17), -7)
        self.assertEqual(ask_house(house, buy(0, 16)), [0, 16])

    def test_coins_that_are_paid_do_not_weigh(self):
        # 1600 coins weigh 16, too much for 10; with 1 paid they weigh 15.
        house = stocked([2], coins=1600, capacity=10, markup=0, weights=(0,))
        self.assertEqual(ask_house(house, find(0, 1)), [-7])
        self.assertEqual(ask_house(house, buy(0, 1)), [0, 1])
        house = stocked([2], coins=1601, capacity=10, markup=0, weights=(0,))
        self.assertRefused(house, buy(0, 1), -7)
        self.assertEqual(ask_house(house, buy(0, 2)), [0, 2])

    def test_coins_that_are_kept_weigh(self):
        house = stocked([20], coins=1000, capacity=10, markup=0)
        # 6 things and 994 coins weigh 6 and 9; 7 would weigh 16.
        self.assertRefused(house, buy(0, 7), -7)
        self.assertEqual(ask_house(house, buy(0, 6)), [0, 6])
        self.assertEqual(ask_house(house, drain(0)), [0, 2000])


if __name__ == "__main__":
    unittest.main()
