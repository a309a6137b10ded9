"""Call 0: open."""

import unittest

from tests.helper import HUGE, ask, drain, drop, find, hurt, last, opening, stocked, wait

NUMBER_RANGES = (
    ("capacity", 1, 100000),
    ("markup", 0, 400),
    ("pays", 0, 100),
    ("regen", 0, 10000),
    ("most_hits", 1, 10000),
    ("coins", 0, 10 ** 12),
    ("shop_coins", 0, 10 ** 12),
)
ROW_RANGES = (
    ("weights", 0, 1000),
    ("prices", 1, 1000000),
    ("foods", 0, 2000),
    ("fuels", 0, 100000),
)
ROW_NAMES = ("weights", "prices", "foods", "fuels")


def rows_of(many):
    return {"weights": [1] * many, "prices": [1] * many, "foods": [1] * many, "fuels": [1] * many}


class OpenTest(unittest.TestCase):
    def test_accepted_answers_nothing_more(self):
        self.assertEqual(ask(opening()), [[0]])

    def test_numbers_at_and_beyond_their_ends(self):
        for name, lowest, highest in NUMBER_RANGES:
            for number in (lowest, highest):
                with self.subTest(name=name, number=number):
                    self.assertEqual(ask(opening(**{name: number})), [[0]])
            for number in (lowest - 1, highest + 1, HUGE, -HUGE):
                with self.subTest(name=name, number=number):
                    self.assertEqual(ask(opening(**{name: number})), [[-1]])

    def test_numbers_of_rows_at_and_beyond_their_ends(self):
        for name, lowest, highest in ROW_RANGES:
            for place in range(3):
                row = [lowest, highest, lowest]
                with self.subTest(name=name, place=place):
                    self.assertEqual(ask(opening(**{**rows_of(3), name: row})), [[0]])
                for number in (lowest - 1, highest + 1, HUGE, -HUGE):
                    row = [highest, lowest, highest]
                    row[place] = number
                    with self.subTest(name=name, place=place, number=number):
                        self.assertEqual(ask(opening(**{**rows_of(3), name: row})), [[-1]])

    def test_rows_of_one_and_of_sixteen(self):
        self.assertEqual(ask(opening(**rows_of(1)), find(0, 1), find(1, 1)), [[0], [0, 1], [-5]])
        self.assertEqual(ask(opening(**rows_of(16)), find(15, 1)), [[0], [0, 1]])
        self.assertEqual(ask(opening(**rows_of(15)), find(14, 1), find(15, 1)), [[0], [0, 1], [-5]])

    def test_rows_too_long(self):
        for many in (17, 18, 99, 100):
            self.assertEqual(ask(opening(**rows_of(many)), find(0, 1)), [[-1], [-2]])
            for name in ROW_NAMES:
                with self.subTest(name=name, many=many):
                    rows = {**rows_of(16), name: [1] * many}
                    self.assertEqual(ask(opening(**rows), opening()), [[-1], [0]])

    def test_empty_first_row(self):
        self.assertEqual(ask(opening(**rows_of(0)), find(0, 1)), [[-4], [-2]])
        self.assertEqual(ask(opening(**{**rows_of(2), "weights": []})), [[-4]])

    def test_rows_not_equally_long(self):
        for name in ROW_NAMES:
            for many in (0, 1, 3, 16):
                with self.subTest(name=name, many=many):
                    self.assertEqual(ask(opening(**{**rows_of(2), name: [1] * many}), find(0, 1)), [[-4], [-2]])

    def test_open_already(self):
        self.assertEqual(ask(opening(), opening()), [[0], [-3]])

    def test_open_already_comes_before_bad_rows(self):
        self.assertEqual(last(opening(), opening(**rows_of(0))), [-3])
        self.assertEqual(last(opening(), opening(**{**rows_of(2), "fuels": [1]})), [-3])

    def test_range_comes_before_open_already(self):
        self.assertEqual(last(opening(), opening(capacity=0)), [-1])
        self.assertEqual(last(opening(), opening(fuels=[100001])), [-1])
        self.assertEqual(last(opening(), opening(**rows_of(17))), [-1])

    def test_range_comes_before_bad_rows(self):
        self.assertEqual(ask(opening(markup=401, **rows_of(0))), [[-1]])
        self.assertEqual(ask(opening(**{**rows_of(0), "prices": [0]})), [[-1]])
        self.assertEqual(ask(opening(**{**rows_of(2), "foods": [2001]})), [[-1]])
        self.assertEqual(ask(opening(**{**rows_of(0), "fuels": [1] * 17})), [[-1]])

    def test_refused_open_leaves_it_closed(self):
        refused = opening(capacity=100001)
        self.assertEqual(ask(refused, wait(1), opening(), refused, wait(1)),
                         [[-1], [-2], [0], [-1], [0, 1, 899, 0, 10, 0, 0]])

    def test_refused_open_changes_nothing(self):
        other = opening(capacity=1, regen=1000, most_hits=77, coins=100, weights=(1, 1))
        self.assertEqual(ask(opening(), find(0, 5), hurt(3), other, find(0, 1), find(1, 1), wait(1), drain(0)),
                         [[0], [0, 5], [0, 7], [-3], [0, 6], [-5], [0, 1, 899, 0, 7, 0, 0], [0, 1000]])

    def test_at_first(self):
        self.assertEqual(ask(opening(most_hits=123), drain(0), drop(0, 1), wait(1)),
                         [[0], [0, 1000], [-6], [0, 1, 899, 0, 123, 0, 0]])

    def test_each_number_is_kept_as_what_it_is(self):
        house = stocked([0], capacity=1, markup=2, pays=3, regen=4, most_hits=5, coins=6, shop_coins=7)
        self.assertEqual((house.capacity, house.markup, house.pays, house.regen, house.most_hits, house.hits,
                          house.coins, house.shop_coins), (1, 2, 3, 4, 5, 5, 6, 7))


if __name__ == "__main__":
    unittest.main()
