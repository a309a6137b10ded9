"""Calls 1 to 4: find, drop, eat, fill."""

import unittest

from tests.helper import HUGE, ask, drain, drop, eat, fill, find, hurt, last, light, opening, wait

BAD_KINDS = (-1, 16, HUGE, -HUGE)
BAD_COUNTS = (0, -1, 10001, HUGE, -HUGE)
SIXTEEN = opening(weights=[0] * 16, foods=[1] * 16, fuels=[1] * 16)
# Kind 0 is food, 1 is fuel, 2 is neither; nothing weighs.
USEFUL = opening(weights=(0, 0, 0), foods=(5, 0, 0), fuels=(0, 7, 0))


class FindTest(unittest.TestCase):
    def test_accepted(self):
        self.assertEqual(ask(opening(weights=(1, 1)), find(0, 3), find(1, 4), find(0, 2)),
                         [[0], [0, 3], [0, 4], [0, 5]])

    def test_ends_of_the_ranges(self):
        self.assertEqual(ask(SIXTEEN, find(0, 1), find(15, 10000)), [[0], [0, 1], [0, 10000]])

    def test_out_of_range(self):
        for kind in BAD_KINDS:
            self.assertEqual(ask(find(kind, 1), SIXTEEN, find(kind, 1)), [[-1], [0], [-1]])
        for n in BAD_COUNTS:
            self.assertEqual(ask(find(0, n), SIXTEEN, find(0, n)), [[-1], [0], [-1]])

    def test_range_comes_first(self):
        self.assertEqual(last(opening(), hurt(10), find(16, 1)), [-1])
        self.assertEqual(last(opening(), hurt(10), find(1, 0)), [-1])
        self.assertEqual(last(opening(), find(1, 10001)), [-1])

    def test_not_open(self):
        self.assertEqual(ask(find(0, 1), find(15, 10000)), [[-2], [-2]])

    def test_no_such_kind(self):
        self.assertEqual(ask(opening(weights=(0, 0)), find(1, 1), find(2, 1), find(15, 1)),
                         [[0], [0, 1], [-5], [-5]])

    def test_no_such_kind_comes_before_gone(self):
        self.assertEqual(last(opening(), hurt(10), find(1, 1)), [-5])

    def test_gone(self):
        self.assertEqual(last(opening(), hurt(10), find(0, 1)), [-9])
        self.assertEqual(last(opening(), wait(900), find(0, 1)), [-9])

    def test_gone_comes_before_too_many_and_too_heavy(self):
        self.assertEqual(last(opening(weights=(0,)), find(0, 10000), hurt(10), find(0, 1)), [-9])
        self.assertEqual(last(opening(capacity=1), hurt(10), find(0, 9)), [-9])

    def test_ten_thousand(self):
        self.assertEqual(ask(opening(weights=(0,)), find(0, 9999), find(0, 2), find(0, 1), find(0, 1), drop(0, 10000)),
                         [[0], [0, 9999], [-4], [0, 10000], [-4], [0, 0]])

    def test_too_many_comes_before_too_heavy(self):
        self.assertEqual(ask(opening(capacity=100000, weights=(15,)), find(0, 9999), find(0, 2), find(0, 1)),
                         [[0], [0, 9999], [-4], [0, 10000]])
        self.assertEqual(ask(opening(capacity=99999, weights=(15,)), find(0, 9999), find(0, 2), find(0, 1)),
                         [[0], [0, 9999], [-4], [-7]])

    def test_too_heavy_changes_nothing(self):
        self.assertEqual(ask(opening(capacity=10, weights=(1, 0)), find(0, 16), find(0, 15), find(0, 1), find(1, 3),
                             drop(0, 16), drop(0, 15)),
                         [[0], [-7], [0, 15], [-7], [0, 3], [-6], [0, 0]])

    def test_all_kinds_weigh_together(self):
        self.assertEqual(ask(opening(capacity=100, weights=(10, 3)), find(0, 12), find(1, 11), find(1, 10)),
                         [[0], [0, 12], [-7], [0, 10]])

    def test_what_weighs_nothing_is_too_heavy_beside_too_many_coins(self):
        self.assertEqual(last(opening(capacity=100, coins=15099, weights=(0,)), find(0, 1)), [0, 1])
        self.assertEqual(last(opening(capacity=100, coins=15100, weights=(0,)), find(0, 1)), [-7])


class DropTest(unittest.TestCase):
    def test_accepted(self):
        self.assertEqual(ask(opening(weights=(1, 1)), find(0, 5), find(1, 5), drop(0, 2), drop(0, 3), drop(1, 1)),
                         [[0], [0, 5], [0, 5], [0, 3], [0, 0], [0, 4]])

    def test_ends_of_the_ranges(self):
        self.assertEqual(ask(SIXTEEN, find(0, 1), find(15, 10000), drop(0, 1), drop(15, 10000)),
                         [[0], [0, 1], [0, 10000], [0, 0], [0, 0]])

    def test_out_of_range(self):
        for kind in BAD_KINDS:
            self.assertEqual(ask(drop(kind, 1), SIXTEEN, drop(kind, 1)), [[-1], [0], [-1]])
        for n in BAD_COUNTS:
            self.assertEqual(ask(drop(0, n), SIXTEEN, drop(0, n)), [[-1], [0], [-1]])

    def test_range_comes_first(self):
        self.assertEqual(last(opening(), hurt(10), drop(-1, 1)), [-1])
        self.assertEqual(last(opening(), hurt(10), drop(1, 0)), [-1])

    def test_not_open(self):
        self.assertEqual(ask(drop(0, 1)), [[-2]])

    def test_no_such_kind(self):
        self.assertEqual(last(opening(), drop(1, 1)), [-5])

    def test_no_such_kind_comes_before_gone(self):
        self.assertEqual(last(opening(), hurt(10), drop(1, 1)), [-5])

    def test_gone(self):
        self.assertEqual(last(opening(), find(0, 1), hurt(10), drop(0, 1)), [-9])
        self.assertEqual(last(opening(), find(0, 1), wait(900), drop(0, 1)), [-9])

    def test_gone_comes_before_too_few(self):
        self.assertEqual(last(opening(), hurt(10), drop(0, 1)), [-9])

    def test_too_few_changes_nothing(self):
        self.assertEqual(ask(opening(weights=(1, 1)), find(0, 5), find(1, 9), drop(0, 6), drop(0, 5), drop(0, 1)),
                         [[0], [0, 5], [0, 9], [-6], [0, 0], [-6]])

    def test_weight_is_less(self):
        self.assertEqual(ask(opening(capacity=10), find(0, 15), drain(0), drop(0, 10), drain(0), find(0, 10)),
                         [[0], [0, 15], [0, 2000], [0, 5], [0, 1000], [0, 15]])


class EatTest(unittest.TestCase):
    def test_accepted(self):
        self.assertEqual(ask(USEFUL, find(0, 2), eat(0), wait(1), eat(0), eat(0)),
                         [[0], [0, 2], [0, 905], [0, 1, 904, 0, 10, 0, 0], [0, 909], [-6]])

    def test_answer_is_rounded_down(self):
        self.assertEqual(last(USEFUL, find(0, 1), drain(1), wait(1), eat(0)), [0, 903])
        self.assertEqual(last(USEFUL, find(0, 1), drain(999), wait(1), eat(0)), [0, 903])

    def test_rounding_is_of_the_answer_alone(self):
        self.assertEqual(last(USEFUL, find(0, 1), drain(1), wait(1), eat(0), drain(999), wait(1)),
                         [0, 1, 902, 0, 10, 0, 0])
        self.assertEqual(last(USEFUL, find(0, 1), drain(1), wait(1), eat(0), drain(998), wait(1)),
                         [0, 1, 902, 0, 10, 0, 0])
        self.assertEqual(last(USEFUL, find(0, 1), drain(1), wait(1), eat(0), drain(1000), wait(1)),
                         [0, 1, 901, 0, 10, 0, 0])

    def test_ends_of_the_ranges(self):
        self.assertEqual(ask(SIXTEEN, find(0, 1), find(15, 1), eat(0), eat(15)),
                         [[0], [0, 1], [0, 1], [0, 901], [0, 902]])

    def test_fed_up_to_two_million(self):
        for food, fed in ((1099, 1999), (1100, 2000), (1101, 2000), (2000, 2000)):
            with self.subTest(food=food):
                self.assertEqual(ask(opening(foods=(food,)), find(0, 2), eat(0), wait(1), eat(0), wait(1)),
                                 [[0], [0, 2], [0, fed], [0, 1, fed - 1, 0, 10, 0, 0], [0, 2000],
                                  [0, 1, 1999, 0, 10, 0, 0]])

    def test_fed_lasts_as_long(self):
        self.assertEqual(last(opening(foods=(2000,)), find(0, 1), eat(0), wait(1000000)), [0, 2000, 0, 3, 10, 0, 0])

    def test_out_of_range(self):
        for kind in BAD_KINDS:
            self.assertEqual(ask(eat(kind), SIXTEEN, eat(kind), hurt(10), eat(kind)), [[-1], [0], [-1], [0, 0], [-1]])

    def test_not_open(self):
        self.assertEqual(ask(eat(0), eat(15)), [[-2], [-2]])

    def test_no_such_kind(self):
        self.assertEqual(last(USEFUL, eat(3)), [-5])

    def test_no_such_kind_comes_before_gone(self):
        self.assertEqual(last(USEFUL, hurt(10), eat(3)), [-5])

    def test_gone(self):
        self.assertEqual(last(USEFUL, find(0, 1), hurt(10), eat(0)), [-9])
        self.assertEqual(last(USEFUL, find(0, 1), wait(900), eat(0)), [-9])

    def test_gone_comes_before_none_and_no_use(self):
        self.assertEqual(last(USEFUL, hurt(10), eat(0)), [-9])
        self.assertEqual(last(USEFUL, find(1, 1), hurt(10), eat(1)), [-9])

    def test_none_in_the_pack(self):
        self.assertEqual(last(USEFUL, find(1, 1), eat(0)), [-6])

    def test_none_comes_before_no_use(self):
        self.assertEqual(last(USEFUL, eat(1)), [-6])

    def test_no_use_changes_nothing(self):
        self.assertEqual(ask(USEFUL, find(1, 1), eat(1), find(2, 1), eat(2), drop(1, 1), drop(2, 1), wait(1)),
                         [[0], [0, 1], [-8], [0, 1], [-8], [0, 0], [0, 0], [0, 1, 899, 0, 10, 0, 0]])

    def test_weight_is_less(self):
        self.assertEqual(ask(opening(capacity=2, foods=(1,)), find(0, 2), drain(0), eat(0), drain(0)),
                         [[0], [0, 2], [0, 1500], [0, 901], [0, 1000]])


class FillTest(unittest.TestCase):
    def test_accepted(self):
        self.assertEqual(ask(USEFUL, find(1, 2), fill(1), fill(1), fill(1)), [[0], [0, 2], [0, 7], [0, 14], [-6]])

    def test_does_not_light(self):
        self.assertEqual(last(USEFUL, find(1, 1), fill(1), wait(1)), [0, 1, 899, 0, 10, 0, 7])

    def test_while_lit(self):
        self.assertEqual(ask(opening(fuels=(51,)), find(0, 2), fill(0), light(1), wait(1), fill(0), wait(1)),
                         [[0], [0, 2], [0, 51], [0, 2], [0, 1, 899, 0, 10, 1, 50], [0, 101],
                          [0, 1, 898, 0, 10, 2, 100]])

    def test_ends_of_the_ranges(self):
        self.assertEqual(ask(SIXTEEN, find(0, 1), find(15, 1), fill(0), fill(15)),
                         [[0], [0, 1], [0, 1], [0, 1], [0, 2]])

    def test_fuel_up_to_a_million(self):
        calls = [opening(weights=(0, 0, 0), fuels=(100000, 99999, 1)), find(0, 10), find(1, 1), find(2, 2)]
        calls += [fill(0)] * 9 + [fill(1), fill(2), fill(2), fill(0), light(1), wait(1)]
        self.assertEqual(ask(*calls)[4:],
                         [[0, 100000 * k] for k in range(1, 10)]
                         + [[0, 999999], [0, 1000000], [0, 1000000], [0, 1000000], [0, 2],
                            [0, 1, 899, 0, 10, 2, 999999]])

    def test_out_of_range(self):
        for kind in BAD_KINDS:
            self.assertEqual(ask(fill(kind), SIXTEEN, fill(kind), hurt(10), fill(kind)),
                             [[-1], [0], [-1], [0, 0], [-1]])

    def test_not_open(self):
        self.assertEqual(ask(fill(0), fill(15)), [[-2], [-2]])

    def test_no_such_kind(self):
        self.assertEqual(last(USEFUL, fill(3)), [-5])

    def test_no_such_kind_comes_before_gone(self):
        self.assertEqual(last(USEFUL, hurt(10), fill(3)), [-5])

    def test_gone(self):
        self.assertEqual(last(USEFUL, find(1, 1), hurt(10), fill(1)), [-9])
        self.assertEqual(last(USEFUL, find(1, 1), wait(900), fill(1)), [-9])

    def test_gone_comes_before_none_and_no_use(self):
        self.assertEqual(last(USEFUL, hurt(10), fill(1)), [-9])
        self.assertEqual(last(USEFUL, find(0, 1), hurt(10), fill(0)), [-9])

    def test_none_in_the_pack(self):
        self.assertEqual(last(USEFUL, find(0, 1), fill(1)), [-6])

    def test_none_comes_before_no_use(self):
        self.assertEqual(last(USEFUL, fill(0)), [-6])

    def test_no_use_changes_nothing(self):
        self.assertEqual(ask(USEFUL, find(0, 1), fill(0), find(2, 1), fill(2), drop(0, 1), drop(2, 1), wait(1)),
                         [[0], [0, 1], [-8], [0, 1], [-8], [0, 0], [0, 0], [0, 1, 899, 0, 10, 0, 0]])

    def test_weight_is_less(self):
        self.assertEqual(ask(opening(capacity=2, fuels=(1,)), find(0, 2), drain(0), fill(0), drain(0)),
                         [[0], [0, 2], [0, 1500], [0, 1], [0, 1000]])


if __name__ == "__main__":
    unittest.main()
