"""What is handed in and given back, that nothing is kept, and long lines of calls."""

import unittest

from mineshift.shift import answers
from tests.shifts import whole_line
from tests.tools import block, book, fleet, join, minutes, place, play, run, shovel, stop_truck, truck


class Form(unittest.TestCase):
    def test_flat_list_in_and_out(self):
        calls = [4, 1, 0, 2, 100, 0, 1, 3, 1, 2, 1, 4, 1, 5, 1, 6, 1, 1, 7, 150, 1, 3, 5, 4, 1, 5, 1, 6, 1, 7, 3, 8, 2]
        self.assertEqual(answers(calls), [
            1, -8,
            1, 0,
            2, 0, 2,
            3, 0, 5, 0,
            6, 0, 3, 1, 2, 7, 100,
            5, 0, 1, 1, 50, 7,
            4, 0, 0, 0, 0,
            13, 0, 4, 2, 2, 1, 0, 0, 4, 1, 3, 1, 7, 100,
            10, 0, 0, 4, 1, 0, 0, 0, 0, 0, 0])

    def test_one_call(self):
        self.assertEqual(answers([4, 1]), [1, -8])
        self.assertEqual(answers([3, -5]), [1, -1])
        self.assertEqual(answers([0, 0, 0, 0, 0, 0, 0, 0, 0]), [1, -1])

    def test_whole_numbers_in_a_list(self):
        for seed in range(20):
            found = answers(join(whole_line(seed)))
            self.assertIs(type(found), list)
            self.assertEqual({type(number) for number in found}, {int})


class NothingKept(unittest.TestCase):
    def test_what_is_handed_in_stays_as_it_was(self):
        for seed in range(20):
            calls = join(whole_line(seed))
            before = list(calls)
            answers(calls)
            self.assertEqual(calls, before)

    def test_twice_gives_the_same(self):
        for seed in range(20):
            calls = join(whole_line(seed))
            first = answers(calls)
            self.assertEqual(answers(calls), first)
            self.assertIsNot(answers(calls), first)

    def test_no_fleet_at_the_beginning_of_every_line(self):
        play(fleet(), block(), run(10))
        self.assertEqual(play(truck(1)), [[-8]])

    def test_changed_answer_changes_nothing(self):
        calls = join([fleet(), block(), run(20), book(), minutes(1)])
        first = answers(calls)
        copy = list(first)
        first.clear()
        self.assertEqual(answers(calls), copy)


class LongLines(unittest.TestCase):
    def test_one_truck_up_to_1440(self):
        found = play(fleet(), block(1, 7, 100000000), *[run(4)] * 360, place(1), shovel(1), truck(1), minutes(1), run(1))
        self.assertEqual(found[2:362], [[0, m, (m + 2) // 16] for m in range(4, 1441, 4)])
        self.assertEqual(found[362:], [[0, 90, 9000, 0], [0, 999910, 1, 99991000, 7], [0, 1, 1, 4, 0, 0],
                                       [0, 0, 540, 0, 270, 450, 0, 180, 0, 0], [-6]])

    def test_four_hundred_calls(self):
        calls = [fleet(n=8, rule=2), block(1, 7, 100000000)] + [stop_truck(k % 8 + 1, 60 * k, 30) for k in range(20)]
        for k in range(94):
            calls += [run(15), truck(k % 8 + 1), book(9 * k), minutes(k % 8 + 1)]
        calls += [run(30), run(1)]
        self.assertEqual(len(calls), 400)
        found = play(*calls)
        self.assertEqual([answer[0] for answer in found[:-1]], [0] * 399)
        self.assertEqual(found[-2][1], 1440)
        self.assertEqual(found[-1], [-6])

    def test_many_fleets_each_up_to_1440(self):
        ways = [1] * 9
        told = [fleet(8, 1, 2, [1] * 3, [1] * 3, [1] * 3, ways, ways), block(1, 1, 100000000), block(2, 2, 100000000),
                run(1440)]
        found = play(*told * 20)
        self.assertEqual(found, found[:4] * 20)
        self.assertEqual(found[3][1], 1440)


if __name__ == "__main__":
    unittest.main()
