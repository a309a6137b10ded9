"""hungerhouse.house.answers: the form of what goes in and comes out."""

import inspect
import unittest

import hungerhouse.house
from hungerhouse.house import answers
from tests.helper import (ASKED, ahead, ask, burden, buy, drain, drop, eat, fill, find, hurt, light, opening, pack,
                          price, sell, shop, status, stock, take_apart, wait, when, worth)


def flat(*calls):
    return [number for call in calls for number in call]


MANY = flat(
    opening(capacity=50, regen=300, coins=90, shop_coins=50, weights=(1, 0, 3), foods=(7, 0, 1), fuels=(0, 60, 2)),
    *[call for turn in range(18) for call in
      (find(0, 1), find(1, 2), find(2, 3), eat(turn % 3), fill(turn % 3), light(turn % 2), wait(1 + turn), drain(turn),
       hurt(1 + turn % 2), drop(2, 3), stock(0, 2), buy(turn % 4, 1), sell(1, 1), status(), price(turn % 4, 3), when(),
       pack(), burden(), worth(), shop(), ahead(1 + turn), drop(16, 1))],
    wait(1), opening(), wait(1))


class OwnList(list):
    """Remembers whether it was changed, for a while even."""

    touched = False

    def touch(self, *told):
        self.touched = True
        raise AssertionError("what is handed in was changed")

    append = extend = insert = pop = remove = clear = sort = reverse = touch
    __setitem__ = __delitem__ = __iadd__ = __imul__ = touch


class InterfaceTest(unittest.TestCase):
    def test_name_and_argument(self):
        self.assertEqual(list(inspect.signature(hungerhouse.house.answers).parameters), ["calls"])

    def test_one_call(self):
        self.assertEqual(answers([1, 0, 1]), [1, -2])

    def test_counts_stand_ahead(self):
        calls = [0, 100, 20, 50, 0, 10, 0, 0, 1, 1, 1, 1, 1, 0, 1, 0, 1, 0, 3, 6, 10, 2, 0, 4]
        self.assertEqual(answers(calls), [1, 0, 2, 0, 3, 7, 0, 10, 890, 0, 10, 0, 0, 1, -6])

    def test_rows_are_taken_in_their_order(self):
        calls = [0, 100, 0, 0, 0, 10, 0, 0, 2, 60, 0, 2, 1, 2, 2, 0, 5, 2, 9, 0]
        calls += find(0, 1) + find(1, 1) + drain(0) + eat(0) + eat(1) + fill(0)
        self.assertEqual(take_apart(answers(calls)), [[0], [0, 1], [0, 1], [0, 1250], [-8], [0, 905], [0, 9]])

    def test_long_rows_are_skipped_whole(self):
        rows = {name: [1] * 100 for name in ("weights", "prices", "foods", "fuels")}
        self.assertEqual(ask(opening(**rows), opening(), find(0, 1)), [[-1], [0], [0, 1]])

    def test_whole_numbers_come_back(self):
        told = answers(MANY)
        self.assertIs(type(told), list)
        self.assertEqual({type(number) for number in told}, {int})

    def test_what_is_handed_in_stays(self):
        calls = OwnList(MANY)
        self.assertEqual(answers(calls), answers(list(MANY)))
        self.assertFalse(calls.touched)
        self.assertEqual(calls, MANY)

    def test_nothing_is_kept(self):
        first = answers(MANY)
        self.assertEqual(answers([1, 0, 1]), [1, -2])
        self.assertEqual(answers(MANY), first)
        self.assertEqual(len(take_apart(first)), 400)

    def test_four_hundred_finds(self):
        told = ask(opening(), *[find(0, 1)] * 399)
        self.assertEqual(told, [[0]] + [[0, count] for count in range(1, 400)])

    def test_four_hundred_calls_before_it_is_open(self):
        self.assertEqual(ask(*[wait(1)] * 399, opening()), [[-2]] * 399 + [[0]])

    def test_four_hundred_openings(self):
        self.assertEqual(ask(*[opening()] * 400), [[0]] + [[-3]] * 399)

    def test_four_hundred_waits(self):
        told = ask(opening(), *[wait(2)] * 399)
        self.assertEqual(told[1:],
                         [[0, 2, 900 - 2 * turn, 0 if turn < 300 else 1, 10, 0, 0] for turn in range(1, 400)])

    def test_long_waits_and_meals_by_turns(self):
        told = ask(opening(foods=(2000,), weights=(0,)), find(0, 199), *[eat(0), wait(1999)] * 199)
        self.assertEqual(told[2:], [[0, 2000], [0, 1999, 1, 2, 10, 0, 0]] * 199)

    def test_answers_of_every_call_in_one_list(self):
        told = ask(opening(capacity=10, regen=1000, coins=30, shop_coins=9, weights=(1, 1), prices=(4, 5), foods=(2, 0),
                           fuels=(0, 55)),
                   find(0, 4), find(1, 3), drop(0, 1), eat(0), fill(1), light(1), hurt(4), wait(3), drain(10), wait(3),
                   stock(0, 2), buy(0, 1), sell(1, 2), status(), price(1, 3), when(), pack(), burden(), worth(), shop(),
                   ahead(4), light(0))
        self.assertEqual(told, [[0], [0, 4], [0, 3], [0, 3], [0, 902], [0, 55], [0, 2], [0, 6],
                                [0, 3, 899, 0, 9, 2, 52], [0, 1010], [0, 3, 895, 0, 10, 1, 49], [0, 2], [0, 5], [0, 5],
                                [0, 895, 0, 10, 1, 49, 10, 895970, 0, 6, 0], [0, 18, 7], [0, 591, 789, 888, 49],
                                [0, 3, 0], [0, 3, 0, 1010], [0, 42, 30], [0, 9, 1, 2], [0, 4, 891, 0, 10, 1, 45],
                                [0, 0]])

    def test_the_example_of_the_readme(self):
        calls = [0, 100, 20, 50, 0, 10, 0, 70, 1, 1, 1, 10, 1, 5, 1, 0, 1, 0, 3, 3, 0, 6, 10, 10, 0, 2, 17]
        self.assertEqual(answers(calls), [1, 0, 2, 0, 3, 2, 0, 905, 7, 0, 10, 895, 0, 10, 0, 0, 2, 0, 10, 3, 0, 10, 10])

    def test_calls_without_arguments_take_none(self):
        calls = flat(opening(), *ASKED, *ASKED, wait(1))
        told = take_apart(answers(calls))
        self.assertEqual(len(told), 14)
        self.assertEqual([len(answer) for answer in told], [1] + [11, 5, 2, 4, 3, 3] * 2 + [7])
        self.assertEqual(told[1:7], told[7:13])

    def test_the_longest_answers(self):
        told = ask(opening(weights=[1] * 16), *[shop()] * 399)
        self.assertEqual(told[1:], [[0, 0] + [0] * 16] * 399)

    def test_four_hundred_looks_ahead(self):
        told = ask(opening(foods=(2000,), regen=10000, most_hits=10000), find(0, 1), eat(0), hurt(9999),
                   *[ahead(1000000)] * 396)
        self.assertEqual(told[4:], [[0, 2000, 0, 3, 10000, 0, 0]] * 396)


if __name__ == "__main__":
    unittest.main()
