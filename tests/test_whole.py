"""What is promised over the whole program: nothing is won by looking often, by dealing, or by asking again."""

import random
import unittest

from hungerhouse.house import answers
from tests.helper import (ASKED, HUGE, ahead, ask, buy, drain, drop, eat, fill, find, hurt, last, light, opening, price,
                          sell, status, stock, take_apart, wait, when)

BY_KIND = (find, drop, buy, sell, stock, price)


def some_opening(chance):
    kinds = chance.randint(1, 16)
    return opening(capacity=chance.choice((7, 50, 1000, 100000)), markup=chance.choice((0, 1, 33, 400)),
                   pays=chance.choice((0, 1, 50, 99, 100)), regen=chance.choice((0, 1, 333, 1000, 10000)),
                   most_hits=chance.choice((4, 30, 10000)), coins=chance.choice((0, 99, 999, 10 ** 5)),
                   shop_coins=chance.choice((0, 100, 10 ** 12)),
                   weights=[chance.choice((0, 0, 1, 3, 30)) for kind in range(kinds)],
                   prices=[chance.choice((1, 3, 99, 10000)) for kind in range(kinds)],
                   foods=[chance.choice((0, 1, 500, 2000)) for kind in range(kinds)],
                   fuels=[chance.choice((0, 1, 51, 100000)) for kind in range(kinds)])


def some_call(chance):
    kind = chance.choice((0, 0, 0, 0, 1, 1, 2, 15, 16, -1))
    n = chance.choice((1, 1, 1, 2, 2, 5, 30, 10000, 0, 10001))
    # Long waits are few, or soon nothing but refusals were left.
    ticks = 1000000 if chance.random() < 0.03 else chance.choice((0, 1, 2, 5, 30, 100))
    by_kind = chance.choice(BY_KIND)
    return chance.choice((
        by_kind(kind, n), by_kind(kind, n), by_kind(kind, n), by_kind(kind, n), eat(kind), fill(kind),
        light(chance.randint(0, 2)), wait(ticks), ahead(chance.choice((ticks, 1000000))),
        drain(chance.choice((0, 17, 5000, 5001))),
        hurt(chance.choice((1, 3, 10001))), chance.choice(ASKED),
        chance.choice((opening(), opening(capacity=0), find(HUGE, -HUGE)))))


def some_line(seed, many):
    chance = random.Random(seed)
    return [some_opening(chance)] + [some_call(chance) for turn in range(many - 1)]


class OftenOrSeldomTest(unittest.TestCase):
    START = [opening(regen=777, most_hits=1000, weights=(1, 0), fuels=(333, 0), foods=(0, 90), capacity=10),
             find(0, 8), find(1, 1), fill(0), light(1), drain(17), hurt(999)]

    def test_many_small_waits_end_as_one(self):
        for total in (1, 59, 360, 379, 900):
            at_once = ask(*self.START, wait(total), *ASKED)[-len(ASKED):]
            for step in (3, 7, 100, 1000):
                ticks = [step] * (total // step) + ([total % step] if total % step else [])
                bit_by_bit = ask(*self.START, *[wait(some) for some in ticks], *ASKED)[-len(ASKED):]
                with self.subTest(total=total, step=step):
                    self.assertEqual(bit_by_bit, at_once)

    def test_tick_by_tick_ends_as_one(self):
        for total in (1, 50, 370):
            at_once = ask(*self.START, wait(total), *ASKED)[-len(ASKED):]
            singly = ask(*self.START, *[wait(1)] * total, *ASKED)[-len(ASKED):]
            with self.subTest(total=total):
                self.assertEqual(singly, at_once)

    def test_asking_between_the_waits_does_not_matter(self):
        at_once = ask(*self.START, wait(300), *ASKED)[-len(ASKED):]
        asked = [call for turn in range(30) for call in (wait(10), ahead(1000), *ASKED)]
        self.assertEqual(ask(*self.START, *asked, *ASKED)[-len(ASKED):], at_once)

    def test_ticks_gone_by_add_up(self):
        told = ask(*self.START, *[wait(70)] * 6, status())
        passed = [answer[1] for answer in told[len(self.START):-1] if answer != [-9]]
        self.assertEqual(sum(passed), told[-1][9])
        self.assertEqual(last(*self.START, wait(1000000))[1], last(*self.START, when())[3])


class AnyLineTest(unittest.TestCase):
    LINES = [some_line(seed, 120) for seed in range(60)]

    def test_every_call_is_accepted_somewhere(self):
        accepted = {call[0] for line in self.LINES for call, answer in zip(line, ask(*line)) if answer[0] == 0}
        self.assertEqual(accepted, set(range(20)))

    def test_a_second_time_answers_as_the_first(self):
        flat = [[number for call in line for number in call] for line in self.LINES]
        first = [answers(calls) for calls in flat]
        self.assertEqual([answers(calls) for calls in reversed(flat)], first[::-1])

    def test_numbers_are_within_what_is_promised(self):
        for line in self.LINES:
            for answer in ask(*line):
                self.assertEqual({type(number) for number in answer}, {int})
                if answer[0] != 0:
                    self.assertEqual(len(answer), 1)
                    self.assertIn(answer[0], range(-10, 0))
                for number in answer[1:]:
                    self.assertTrue(-1 <= number <= 10 ** 13)

    def test_a_refusal_changes_nothing(self):
        for seed, line in enumerate(self.LINES):
            told = ask(*line)
            kept = [call for call, answer in zip(line, told) if answer[0] == 0]
            with self.subTest(seed=seed):
                self.assertLess(len(kept), len(line))
                self.assertEqual(ask(*kept), [answer for answer in told if answer[0] == 0])

    def test_what_asks_changes_nothing(self):
        for seed, line in enumerate(self.LINES):
            told = ask(*line)
            done = [call for call in line if call[0] < 12]
            with self.subTest(seed=seed):
                self.assertEqual(ask(*done), [answer for call, answer in zip(line, told) if call[0] < 12])

    def test_ahead_is_as_wait(self):
        for seed, line in enumerate(self.LINES):
            for ticks in (1, 90, 1000000):
                foreseen = ask(*line, ahead(ticks), status(), wait(ticks))[-3:]
                with self.subTest(seed=seed, ticks=ticks):
                    if foreseen[1][10] == 1:
                        self.assertEqual(foreseen[0], [0, 0] + foreseen[1][1:6])
                        self.assertEqual(foreseen[2], [-9])
                    else:
                        self.assertEqual(foreseen[0], foreseen[2])

    def test_no_coin_is_won_or_lost_between_one_and_the_shop(self):
        for seed, line in enumerate(self.LINES):
            told = ask(*line, *ASKED)
            with self.subTest(seed=seed):
                self.assertEqual(told[-2][2] + told[-1][1], line[0][6] + line[0][7])

    def test_the_answers_are_taken_apart_whole(self):
        for line in self.LINES:
            flat = [number for call in line for number in call]
            self.assertEqual(len(take_apart(answers(flat))), len(line))


if __name__ == "__main__":
    unittest.main()
