"""Calls 5 to 8: light, wait, drain, hurt."""

import unittest
from fractions import Fraction

from hungerhouse.ticks import pass_ticks
from tests.helper import HUGE, ask, ask_house, drain, eat, fill, find, hurt, last, light, opening, stocked, wait


def lit(fuel, **told):
    """Calls by which so much fuel burns."""
    return [opening(fuels=(fuel,), weights=(0,), **told), find(0, 1), fill(0), light(1)]


def starve_to(left):
    """Calls behind which fed is just so much (0 if it's told to be less); the last tick brings the odd rest."""
    whole = (900000 - left) // 1000 - 1
    return [wait(whole), drain(900000 - left - whole * 1000 - 1000), wait(1)]


class LightTest(unittest.TestCase):
    def test_accepted(self):
        self.assertEqual(ask(*lit(51), light(0), light(0), light(1), light(1))[3:],
                         [[0, 2], [0, 0], [0, 0], [0, 2], [0, 2]])

    def test_radius_by_fuel(self):
        for fuel, radius in ((1, 1), (2, 1), (49, 1), (50, 1), (51, 2), (52, 2), (100000, 2)):
            with self.subTest(fuel=fuel):
                self.assertEqual(last(*lit(fuel)), [0, radius])
                self.assertEqual(last(*lit(fuel), light(0)), [0, 0])

    def test_burns_only_while_lit(self):
        self.assertEqual(ask(*lit(60), wait(4), light(0), wait(4), light(1), wait(4))[4:],
                         [[0, 4, 896, 0, 10, 2, 56], [0, 0], [0, 4, 892, 0, 10, 0, 56], [0, 2],
                          [0, 4, 888, 0, 10, 2, 52]])

    def test_out_of_range(self):
        for on in (-1, 2, HUGE, -HUGE):
            self.assertEqual(ask(light(on), opening(), light(on), hurt(10), light(on)),
                             [[-1], [0], [-1], [0, 0], [-1]])

    def test_not_open(self):
        self.assertEqual(ask(light(0), light(1)), [[-2], [-2]])

    def test_gone(self):
        self.assertEqual(ask(*lit(60), hurt(10), light(0), light(1))[-2:], [[-9], [-9]])
        self.assertEqual(ask(*lit(60), wait(900), light(0), light(1))[-2:], [[-9], [-9]])

    def test_gone_comes_before_no_fuel(self):
        self.assertEqual(last(opening(), hurt(10), light(1)), [-9])

    def test_no_fuel(self):
        self.assertEqual(ask(opening(), light(1), light(0), wait(1)),
                         [[0], [-8], [0, 0], [0, 1, 899, 0, 10, 0, 0]])

    def test_refused_leaves_it_unlit(self):
        self.assertEqual(ask(opening(fuels=(9,)), light(1), find(0, 1), fill(0), wait(1), light(1))[1:],
                         [[-8], [0, 1], [0, 9], [0, 1, 899, 0, 10, 0, 9], [0, 1]])


class BurningTest(unittest.TestCase):
    def test_fuel_on_its_way_down(self):
        self.assertEqual(ask(*lit(52), wait(1), wait(1), wait(48), wait(1), wait(1), wait(1))[4:],
                         [[0, 1, 899, 0, 10, 2, 51], [0, 1, 898, 0, 10, 1, 50], [0, 48, 850, 0, 10, 1, 2],
                          [0, 1, 849, 0, 10, 1, 1], [0, 1, 848, 0, 10, 0, 0], [0, 1, 847, 0, 10, 0, 0]])

    def test_goes_out_within_a_wait(self):
        self.assertEqual(last(*lit(5), wait(9)), [0, 9, 891, 0, 10, 0, 0])

    def test_stays_out_when_filled_again(self):
        self.assertEqual(ask(opening(fuels=(2,)), find(0, 2), fill(0), light(1), wait(2), light(1), fill(0), wait(1),
                             light(1))[4:],
                         [[0, 2, 898, 0, 10, 0, 0], [-8], [0, 2], [0, 1, 897, 0, 10, 0, 2], [0, 1]])


class WaitTest(unittest.TestCase):
    def test_accepted(self):
        self.assertEqual(ask(opening(), wait(1), wait(99)), [[0], [0, 1, 899, 0, 10, 0, 0], [0, 99, 800, 0, 10, 0, 0]])

    def test_ends_of_the_range(self):
        self.assertEqual(last(opening(), wait(1)), [0, 1, 899, 0, 10, 0, 0])
        self.assertEqual(last(opening(), wait(1000000)), [0, 900, 0, 3, 10, 0, 0])

    def test_out_of_range(self):
        for ticks in (0, -1, 1000001, HUGE, -HUGE):
            self.assertEqual(ask(wait(ticks), opening(), wait(ticks), hurt(10), wait(ticks)),
                             [[-1], [0], [-1], [0, 0], [-1]])

    def test_not_open(self):
        self.assertEqual(ask(wait(1), wait(1000000)), [[-2], [-2]])

    def test_gone(self):
        self.assertEqual(last(opening(), hurt(10), wait(1)), [-9])
        self.assertEqual(last(opening(), wait(900), wait(1)), [-9])
        self.assertEqual(last(opening(), wait(899), wait(1)), [0, 1, 0, 3, 10, 0, 0])

    def test_refused_lets_no_tick_go_by(self):
        self.assertEqual(last(opening(), wait(0), wait(1000001), wait(1)), [0, 1, 899, 0, 10, 0, 0])

    def test_ends_when_gone(self):
        for ticks, passed, left in ((899, 899, 1), (900, 900, 0), (901, 900, 0)):
            with self.subTest(ticks=ticks):
                self.assertEqual(last(opening(), wait(ticks)), [0, passed, left, 2 if left else 3, 10, 0, 0])

    def test_last_tick_is_whole(self):
        # 900000 is 128 times 7000 and 4000: fed isn't below 0, and the light burns in the 129th tick too.
        loaded = [opening(capacity=4, fuels=(500,)), find(0, 6), drain(5000), fill(0), find(0, 1), light(1)]
        self.assertEqual(last(*loaded, wait(1000)), [0, 129, 0, 3, 10, 2, 371])
        self.assertEqual(last(*lit(500), drain(5000), wait(1000)), [0, 150, 0, 3, 10, 2, 350])
        self.assertEqual(last(*lit(500), drain(4999), wait(1000)), [0, 151, 0, 3, 10, 2, 349])
        self.assertEqual(last(*lit(151), drain(4999), wait(1000)), [0, 151, 0, 3, 10, 0, 0])

    def test_clock_counts_every_tick(self):
        house = stocked([0])
        self.assertEqual(house.clock, 0)
        self.assertEqual(pass_ticks(house, 7), 7)
        self.assertEqual(house.clock, 7)
        self.assertEqual(pass_ticks(house, 1000000), 893)
        self.assertEqual(house.clock, 900)
        self.assertEqual(pass_ticks(house, 1), 0)
        self.assertEqual(house.clock, 900)

    def test_often_or_seldom_is_the_same(self):
        start = [opening(regen=777, most_hits=1000, fuels=(333,), capacity=10), find(0, 8), fill(0), light(1),
                 drain(17), hurt(999)]
        at_once = last(*start, wait(360))
        for step in (1, 2, 7, 100):
            ticks = [step] * (360 // step) + ([360 % step] if 360 % step else [])
            bit_by_bit = last(*start, *[wait(some) for some in ticks])
            with self.subTest(step=step):
                self.assertEqual(bit_by_bit[2:], at_once[2:])


class MoodTest(unittest.TestCase):
    def test_at_three_hundred_thousand(self):
        self.assertEqual(last(opening(), *starve_to(300001))[2:4], [300, 0])
        self.assertEqual(last(opening(), *starve_to(300000))[2:4], [300, 1])
        self.assertEqual(last(opening(), *starve_to(299999))[2:4], [299, 1])

    def test_at_one_hundred_thousand(self):
        self.assertEqual(last(opening(), *starve_to(100001))[2:4], [100, 1])
        self.assertEqual(last(opening(), *starve_to(100000))[2:4], [100, 2])
        self.assertEqual(last(opening(), *starve_to(99999))[2:4], [99, 2])

    def test_at_nothing(self):
        self.assertEqual(ask(opening(), *starve_to(1), wait(5))[-2:],
                         [[0, 1, 0, 2, 10, 0, 0], [0, 1, 0, 3, 10, 0, 0]])
        self.assertEqual(ask(opening(), *starve_to(0), wait(5))[-2:], [[0, 1, 0, 3, 10, 0, 0], [-9]])
        self.assertEqual(ask(opening(), *starve_to(-1), wait(5))[-2:], [[0, 1, 0, 3, 10, 0, 0], [-9]])


class HealingTest(unittest.TestCase):
    def hits_after(self, start, ticks):
        return [last(*start, wait(some))[4] for some in ticks]

    def test_healed_is_carried_over(self):
        start = [opening(regen=300), hurt(5)]
        self.assertEqual(self.hits_after(start, range(1, 11)), [5, 5, 5, 6, 6, 6, 7, 7, 7, 8])
        singly = ask(*start, *[wait(1)] * 10)
        self.assertEqual([told[4] for told in singly[2:]], [5, 5, 5, 6, 6, 6, 7, 7, 7, 8])

    def test_just_a_thousand(self):
        self.assertEqual(self.hits_after([opening(regen=999), hurt(5)], (1, 2)), [5, 6])
        self.assertEqual(self.hits_after([opening(regen=1000), hurt(5)], (1, 2)), [6, 7])
        self.assertEqual(self.hits_after([opening(regen=500), hurt(5)], (1, 2, 3, 4)), [5, 6, 6, 7])

    def test_just_a_thousand_is_used_up(self):
        self.assertEqual(self.hits_after([opening(regen=1999, most_hits=20), hurt(15)], (1, 2, 3)), [6, 8, 10])
        self.assertEqual(self.hits_after([opening(regen=1001, most_hits=20), hurt(15)], (1, 2, 3)), [6, 7, 8])

    def test_several_hits_in_a_tick(self):
        self.assertEqual(self.hits_after([opening(regen=2500, most_hits=100), hurt(90)], (1, 2, 3, 4)),
                         [12, 15, 17, 20])
        self.assertEqual(self.hits_after([opening(regen=10000, most_hits=25), hurt(24)], (1, 2, 3)), [11, 21, 25])

    def test_no_regen(self):
        self.assertEqual(self.hits_after([opening(regen=0), hurt(5)], (1, 899)), [5, 5])

    def test_nothing_is_healed_beyond_the_most(self):
        self.assertEqual(self.hits_after([opening(regen=10000), wait(1)], (1, 100)), [10, 10])

    def test_healed_is_lost_at_the_most(self):
        # 1400 by the second tick: the 400 left over are gone, so a hurt then takes two ticks again.
        start = [opening(regen=700), hurt(1), wait(2), hurt(1)]
        self.assertEqual(self.hits_after(start, (1, 2)), [9, 10])

    def test_healed_is_not_saved_up_at_the_most(self):
        start = [opening(regen=999), wait(5), hurt(1)]
        self.assertEqual(self.hits_after(start, (1, 2)), [9, 10])

    def test_healed_is_kept_when_hurt_below_the_most(self):
        start = [opening(regen=700), hurt(5), wait(1), hurt(1)]
        self.assertEqual(self.hits_after(start, (1, 2, 3)), [5, 6, 6])

    def test_hungry_heals_by_half_rounded_down(self):
        # 5 a tick: the thousand is full by the 200th tick, the last one that begins above 100000.
        start = [opening(regen=11), wait(600), hurt(1)]
        self.assertEqual(self.hits_after(start, (181, 182, 199, 200)), [9, 9, 9, 10])
        start = [opening(regen=1, most_hits=2), wait(600), hurt(1)]
        self.assertEqual(self.hits_after(start, (250,)), [1])
        start = [opening(regen=2001), wait(600), hurt(9)]
        self.assertEqual(self.hits_after(start, (1, 2, 3)), [2, 3, 4])

    def test_mood_at_the_beginning_counts(self):
        # The 600th tick begins at 301000, in mood 0, the 601st at 300000, in mood 1.
        start = [opening(regen=2000, most_hits=100), wait(599), hurt(90)]
        self.assertEqual(self.hits_after(start, (1, 2, 3)), [12, 13, 14])
        # The 800th tick begins at 101000, in mood 1, the 801st at 100000, in mood 2.
        start = [opening(regen=2000, most_hits=100), wait(799), hurt(90)]
        self.assertEqual(self.hits_after(start, (1, 2, 3, 101)), [11, 11, 11, 11])

    def test_weak_heals_nothing(self):
        start = [opening(regen=10000, most_hits=100), wait(800), hurt(90)]
        self.assertEqual(self.hits_after(start, (1, 99, 100)), [10, 10, 10])

    def test_healed_waits_while_weak(self):
        # One tick in mood 1 heals 450, those in mood 2 nothing, and the one behind the meal 900 more.
        start = [opening(regen=900, foods=(800,), capacity=10), find(0, 1), wait(799), hurt(5)]
        self.assertEqual(last(*start, wait(1))[4], 5)
        self.assertEqual(last(*start, wait(51))[4], 5)
        self.assertEqual(last(*start, wait(51), eat(0), wait(1))[4], 6)

    def test_healed_stays_just_as_it_is_while_weak(self):
        # 333 in mood 1, nothing for 50 ticks in mood 2, then 666 or 667 in mood 0.
        for regen, hits in ((666, 5), (667, 6)):
            start = [opening(regen=regen, foods=(800,)), find(0, 1), wait(799), hurt(5)]
            with self.subTest(regen=regen):
                self.assertEqual(last(*start, wait(51), eat(0), wait(1))[4], hits)


class DrainTest(unittest.TestCase):
    def test_accepted(self):
        self.assertEqual(ask(opening(), drain(7), wait(1), drain(0), wait(1)),
                         [[0], [0, 1007], [0, 1, 898, 0, 10, 0, 0], [0, 1000], [0, 1, 897, 0, 10, 0, 0]])

    def test_ends_of_the_range(self):
        self.assertEqual(ask(opening(), drain(0), drain(5000), wait(1)),
                         [[0], [0, 1000], [0, 6000], [0, 1, 894, 0, 10, 0, 0]])

    def test_out_of_range(self):
        for thousandths in (-1, 5001, HUGE, -HUGE):
            self.assertEqual(ask(drain(thousandths), opening(), drain(thousandths), hurt(10), drain(thousandths)),
                             [[-1], [0], [-1], [0, 0], [-1]])

    def test_not_open(self):
        self.assertEqual(ask(drain(0), drain(5000)), [[-2], [-2]])

    def test_refused_changes_nothing(self):
        self.assertEqual(last(opening(), drain(9), drain(5001), wait(10)), [0, 10, 889, 0, 10, 0, 0])
        self.assertEqual(last(drain(9), opening(), wait(10)), [0, 10, 890, 0, 10, 0, 0])

    def test_gone_may_still_be_drained(self):
        self.assertEqual(last(opening(), hurt(10), drain(3)), [0, 1003])
        self.assertEqual(last(opening(), wait(900), drain(3)), [0, 1003])


class LoadTest(unittest.TestCase):
    def test_each_step(self):
        steps = ((0, 1000), (49, 1000), (50, 1000), (51, 1250), (75, 1250), (76, 1500), (100, 1500), (101, 1750),
                 (125, 1750), (126, 2000), (149, 2000), (150, 2000))
        for weight, rate in steps:
            carried = [find(0, weight)] if weight else []
            with self.subTest(weight=weight):
                self.assertEqual(last(opening(capacity=100), *carried, drain(0)), [0, rate])
                self.assertEqual(last(opening(capacity=100), *carried, drain(5000)), [0, rate + 5000])
        self.assertEqual(last(opening(capacity=100), find(0, 151)), [-7])

    def test_capacities_that_do_not_divide(self):
        for capacity in (1, 2, 3, 4, 5, 6, 7, 101, 102, 103, 6665):
            limits = [Fraction(capacity * quarters, 4) for quarters in (2, 3, 4, 5, 6)]
            for weight in sorted({int(limit) + more for limit in limits for more in (0, 1)} - {0}):
                told = ask(opening(capacity=capacity), find(0, weight), drain(0))[1:]
                steps = sum(1 for limit in limits[:4] if weight > limit)
                expected = [[-7], [0, 1000]]
                if weight <= limits[4]:
                    expected = [[0, weight], [0, 1000 + 250 * steps]]
                with self.subTest(capacity=capacity, weight=weight):
                    self.assertEqual(told, expected)

    def test_coins_weigh(self):
        for coins, rate in ((0, 1000), (5099, 1000), (5100, 1250), (7599, 1250), (7600, 1500), (10099, 1500),
                            (10100, 1750), (12599, 1750), (12600, 2000), (10 ** 12, 2000)):
            with self.subTest(coins=coins):
                self.assertEqual(last(opening(capacity=100, coins=coins), drain(0)), [0, rate])

    def test_coins_and_pack_weigh_together(self):
        self.assertEqual(last(opening(capacity=100, coins=2099), find(0, 30), drain(0)), [0, 1000])
        self.assertEqual(last(opening(capacity=100, coins=2100), find(0, 30), drain(0)), [0, 1250])
        self.assertEqual(last(opening(capacity=100, coins=2099), find(0, 130)), [0, 130])
        self.assertEqual(last(opening(capacity=100, coins=2100), find(0, 130)), [-7])

    def test_shop_coins_do_not_weigh(self):
        self.assertEqual(last(opening(capacity=1, shop_coins=10 ** 12), drain(0)), [0, 1000])

    def test_load_makes_hungry(self):
        self.assertEqual(last(opening(capacity=100), find(0, 126), wait(10)), [0, 10, 880, 0, 10, 0, 0])


class HurtTest(unittest.TestCase):
    def test_accepted(self):
        self.assertEqual(ask(opening(), hurt(3), hurt(6), wait(1)), [[0], [0, 7], [0, 1], [0, 1, 899, 0, 1, 0, 0]])

    def test_ends_of_the_range(self):
        self.assertEqual(ask(opening(most_hits=10000), hurt(1), hurt(10000)), [[0], [0, 9999], [0, 0]])
        self.assertEqual(ask(opening(most_hits=10000), hurt(9999), hurt(1)), [[0], [0, 1], [0, 0]])

    def test_not_below_nothing(self):
        self.assertEqual(ask(opening(), hurt(10)), [[0], [0, 0]])
        self.assertEqual(ask(opening(), hurt(11)), [[0], [0, 0]])

    def test_out_of_range(self):
        for hits in (0, -1, 10001, HUGE, -HUGE):
            self.assertEqual(ask(hurt(hits), opening(), hurt(hits), wait(1), hurt(10), hurt(hits)),
                             [[-1], [0], [-1], [0, 1, 899, 0, 10, 0, 0], [0, 0], [-1]])

    def test_not_open(self):
        self.assertEqual(ask(hurt(1), opening(), hurt(1)), [[-2], [0], [0, 9]])

    def test_gone(self):
        self.assertEqual(last(opening(), hurt(10), hurt(1)), [-9])
        self.assertEqual(last(opening(), wait(900), hurt(1)), [-9])

    def test_gone_changes_nothing(self):
        house = stocked([0])
        self.assertEqual(ask_house(house, wait(900))[1], 900)
        self.assertEqual(ask_house(house, hurt(1)), [-9])
        self.assertEqual(house.hits, 10)


if __name__ == "__main__":
    unittest.main()
