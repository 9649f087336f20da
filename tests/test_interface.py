"""What is handed in and given back, that nothing is kept, and long lines of calls."""

import ast
import pathlib
import re
import unittest

from mineshift.shift import answers
from tests.model import Model
from tests.shifts import whole_line
from tests.tools import (
    ahead, balance, block, blocks, book, check, fewest, fleet, join, minutes, next_shovel, now, other, place, play, run,
    shovel, stop_shovel, stop_truck, truck, work)


class Form(unittest.TestCase):
    def test_flat_list_in_and_out(self):
        calls = [4, 1, 0, 2, 100, 0, 1, 3, 1, 2, 1, 4, 1, 5, 1, 6, 1, 1, 7, 150, 1, 3, 5, 4, 1, 5, 1, 6, 1, 7, 3, 8, 2]
        self.assertEqual(answers(calls), [
            1, -8,
            1, 0,
            2, 0, 2,
            3, 0, 5, 0,
            6, 0, 3, 1, 2, 7, 100,
            5, 0, 1, 1, 50, 7,
            4, 0, 0, 0, 0,
            13, 0, 4, 2, 2, 1, 0, 0, 4, 1, 3, 1, 7, 100,
            10, 0, 0, 4, 1, 0, 0, 0, 0, 0, 0])

    def test_flat_list_of_the_further_calls(self):
        calls = [17, 0, 2, 100, 0, 1, 3, 1, 2, 1, 4, 1, 5, 1, 6, 1, 1, 7, 250, 1, 3, 14, 9, 1, 10, 11, 12, 0, 12, 1,
                 13, 0, 13, 6, 0, 1, 1, 1, 0, 0, 13, 12, 0, 1, 1, 1, 0, 0, 0, 2, 1, 1, 0, 1, 13, 1, 5,
                 14, 1, 1, 15, 8, 15, 3, 16, 3, 17]
        self.assertEqual(answers(calls), [
            1, -8,
            1, 0,
            2, 0, 3,
            3, 0, 14, 1,
            5, 0, 6, 0, 8, 0,
            5, 0, 250, 50, 100, 100,
            5, 0, 7, 250, 100, 1,
            2, 0, 1,
            2, 0, 1,
            2, 0, 1,
            2, 0, 1,
            3, 0, 0, 1,
            1, -7,
            4, 0, 1, 100, 11,
            3, 0, 2, 8,
            2, 0, 0,
            4, 0, 2, 200, 11,
            9, 0, 14, 2, 1, 1, 0, 10, 1, 8])

    def test_one_call(self):
        self.assertEqual(answers([4, 1]), [1, -8])
        self.assertEqual(answers([3, -5]), [1, -1])
        for call in (10, 11, 17):
            self.assertEqual(answers([call]), [1, -8])
        self.assertEqual(answers([13, 0]), [1, -8])
        self.assertEqual(answers([0, 0, 0, 0, 0, 0, 0, 0, 0]), [1, -1])

    def test_whole_numbers_in_a_list(self):
        for seed in range(20):
            found = answers(join(whole_line(seed)))
            self.assertIs(type(found), list)
            self.assertEqual({type(number) for number in found}, {int})


class Readme(unittest.TestCase):
    def test_its_examples(self):
        text = (pathlib.Path(__file__).resolve().parent.parent / "README.md").read_text(encoding="utf-8")
        found = re.findall(r">>> answers\((.*)\)\n(.*)\n", text)
        self.assertEqual(len(found), 2)
        for calls, answer in found:
            self.assertEqual(answers(ast.literal_eval(calls)), ast.literal_eval(answer))


class NothingKept(unittest.TestCase):
    def test_what_is_handed_in_stays_as_it_was(self):
        for seed in range(20):
            calls = join(whole_line(seed))
            before = list(calls)
            answers(calls)
            self.assertEqual(calls, before)

    def test_twice_gives_the_same(self):
        for seed in range(20):
            calls = join(whole_line(seed))
            first = answers(calls)
            self.assertEqual(answers(calls), first)
            self.assertIsNot(answers(calls), first)

    def test_no_fleet_at_the_beginning_of_every_line(self):
        play(fleet(), block(), run(10), other(1, 8), ahead(10))
        self.assertEqual(play(truck(1), now()), [[-8], [-8]])

    def test_calls_for_themselves_twice(self):
        told = [fleet(n=2), block(), stop_truck(2, 5, 30), run(70)]
        for call in (work(1), balance(), blocks(), next_shovel(0), check([0, 1, 1, 1, 0, 0]), other(2, 5), fewest(30),
                     ahead(40), now()):
            calls = join(told + [call, call])
            before = list(calls)
            first = answers(calls)
            self.assertEqual(calls, before)
            self.assertEqual(answers(calls), first)
            size = len(first) - len(answers(join(told + [call])))
            self.assertEqual(first[-size:], first[-2 * size:-size])

    def test_changed_answer_changes_nothing(self):
        calls = join([fleet(), block(), run(20), book(), minutes(1)])
        first = answers(calls)
        copy = list(first)
        first.clear()
        self.assertEqual(answers(calls), copy)


class LongLines(unittest.TestCase):
    def test_one_truck_up_to_1440(self):
        found = play(fleet(), block(1, 7, 100000000), *[run(4)] * 360, place(1), shovel(1), truck(1), minutes(1), run(1))
        self.assertEqual(found[2:362], [[0, m, (m + 2) // 16] for m in range(4, 1441, 4)])
        self.assertEqual(found[362:], [[0, 90, 9000, 0], [0, 999910, 1, 99991000, 7], [0, 1, 1, 4, 0, 0],
                                       [0, 0, 540, 0, 270, 450, 0, 180, 0, 0], [-6]])

    def test_four_hundred_calls(self):
        calls = [fleet(n=8, rule=2), block(1, 7, 100000000)] + [stop_truck(k % 8 + 1, 60 * k, 30) for k in range(20)]
        for k in range(94):
            calls += [run(15), truck(k % 8 + 1), book(9 * k), minutes(k % 8 + 1)]
        calls += [run(30), run(1)]
        self.assertEqual(len(calls), 400)
        found = play(*calls)
        self.assertEqual([answer[0] for answer in found[:-1]], [0] * 399)
        self.assertEqual(found[-2][1], 1440)
        self.assertEqual(found[-1], [-6])

    def test_many_fleets_each_up_to_1440(self):
        ways = [1] * 9
        told = [fleet(8, 1, 2, [1] * 3, [1] * 3, [1] * 3, ways, ways), block(1, 1, 100000000), block(2, 2, 100000000),
                run(1440)]
        found = play(*told * 20)
        self.assertEqual(found, found[:4] * 20)
        self.assertEqual(found[3][1], 1440)

    def test_ten_replays_of_the_longest_shift(self):
        told = [fleet(8, 1000, 2, [2, 3, 4], [1, 2, 2], [4, 7, 9], [3, 5, 8, 4, 6, 2, 9, 3, 5],
                      [4, 5, 9, 6, 3, 8, 2, 7, 4])]
        told += [block(k % 3 + 1, k + 1, 150000 + 777 * k, k % 2 + 1) for k in range(20)]
        told += [stop_truck(k % 8 + 1, 130 * k, 100) if k % 2 else stop_shovel(k % 3 + 1, 60 * k, 45) for k in range(11)]
        told += [run(700)] + [stop_truck(k % 8 + 1, 700 + 80 * k, 60 + k) for k in range(9)]
        asked = [ahead(740), ahead(741), ahead(1), run(740), other(0, 8), other(1, 1), other(2, 8), fewest(0),
                 fewest(2400), fewest(10000), ahead(1), now()]
        found = play(*told, *asked)
        model = Model()
        self.assertEqual(found, [model.ask(call) for call in told + asked])
        self.assertEqual([answer[0] for answer in found[:len(told)]], [0] * 42)
        later, too_late, soon, ran, nought, one, own, none, some, least, late, end = found[len(told):]
        self.assertEqual([too_late, late], [[-6], [-6]])
        self.assertEqual(later, own)
        self.assertEqual([own[1], own[3]], end[7:])
        self.assertEqual([none, least[:2]], [[0, 0], [0, 1]])
        self.assertEqual(some[:2], [0, 7])

    def test_four_hundred_of_the_further_calls(self):
        told = [fleet(n=3, rule=1), block(1, 7, 100000000)]
        views = [run(3), work(1), balance(), blocks(), next_shovel(0), next_shovel(1), check([0, 1, 1, 1, 0, 0]), now()]
        calls = told + views * 48 + [other(0, 8), other(2, 1), fewest(0), fewest(90), ahead(1), ahead(99), ahead(1000),
                                     other(1, 3), other(0, 3), other(2, 3), now(), balance(), blocks(), work(1)]
        self.assertEqual(len(calls), 400)
        model = Model()
        found = play(*calls)
        self.assertEqual(found, [model.ask(call) for call in calls])
        self.assertEqual({answer[0] for answer in found}, {0})


if __name__ == "__main__":
    unittest.main()
