"""What the calls work, balance, blocks, next, check and now answer when they're done."""

import unittest

from tests.shifts import told_shift
from tests.tools import (
    balance, block, blocks, check, fleet, last, lines, next_shovel, now, place, play, run, shovel, stop_shovel,
    stop_truck, truck, work)


def after(told, minute, view):
    return last(*told, *([run(minute)] if minute > 0 else []), view)


class WorkCall(unittest.TestCase):
    def test_one_round(self):
        told = [fleet(), block(1, 7, 150)]
        for minute, counted in (
                (0, [0, 0, 0, 0]), (1, [0, 0, 1, 0]), (4, [0, 0, 4, 0]), (5, [1, 0, 4, 0]), (7, [3, 0, 4, 0]),
                (8, [3, 0, 5, 0]), (20, [3, 0, 17, 0]), (21, [4, 0, 17, 0]), (23, [6, 0, 17, 0]), (24, [6, 0, 17, 1]),
                (40, [6, 0, 17, 17]), (1440, [6, 0, 17, 1417])):
            self.assertEqual(after(told, minute, work(1)), [0] + counted, minute)

    def test_nothing_left_without_a_block(self):
        self.assertEqual(after([fleet()], 9, work(1)), [0, 0, 0, 0, 9])
        self.assertEqual(last(fleet(), run(9), block(), run(6), work(1)), [0, 2, 0, 4, 9])

    def test_loading_of_the_last_load_is_loading(self):
        self.assertEqual(after([fleet(), block(1, 7, 100)], 8, work(1)), [0, 3, 0, 4, 1])

    def test_stopped_ahead_of_all_others(self):
        self.assertEqual(last(fleet(), block(), stop_shovel(1, 5, 10), run(20), work(1)), [0, 3, 10, 7, 0])
        self.assertEqual(last(fleet(), stop_shovel(1, 5, 10), run(20), work(1)), [0, 0, 10, 0, 10])
        self.assertEqual(last(fleet(), block(), stop_shovel(1, 1, 2), run(4), work(1)), [0, 0, 2, 2, 0])

    def test_stopped_truck_that_waits_leaves_it_without_a_truck(self):
        told = [fleet(), block(), stop_truck(1, 4, 6), run(12)]
        self.assertEqual(last(*told, work(1)), [0, 2, 0, 10, 0])

    def test_stopped_truck_that_is_loaded_is_loaded(self):
        told = [fleet(), block(), stop_truck(1, 5, 6), run(12)]
        self.assertEqual(last(*told, work(1)), [0, 8, 0, 4, 0])

    def test_each_shovel_has_its_own(self):
        told = [fleet(1, 100, 0, [3] * 3, [2], [4] * 3, [5] * 3, [6] * 3), block(2, 7, 100), stop_shovel(3, 0, 2)]
        found = play(*told, run(10), work(1), work(2), work(3))
        self.assertEqual(found[-3:], [[0, 0, 0, 0, 10], [0, 3, 0, 4, 3], [0, 0, 2, 0, 8]])


class BalanceCall(unittest.TestCase):
    def test_none_told(self):
        self.assertEqual(play(fleet(), balance(), run(100), balance()), [[0], [0] * 5, [0, 100, 0], [0] * 5])

    def test_one_block(self):
        told = [fleet(), block(1, 7, 150)]
        for minute, parts in ((0, [150, 0, 0]), (4, [150, 0, 0]), (5, [50, 100, 0]), (13, [50, 100, 0]),
                              (14, [50, 0, 100]), (20, [50, 0, 100]), (21, [0, 50, 100]), (29, [0, 50, 100]),
                              (30, [0, 0, 150]), (1440, [0, 0, 150])):
            self.assertEqual(after(told, minute, balance()), [0, 150] + parts, minute)

    def test_blocks_in_each_state_at_once(self):
        call = fleet(2, 100, 0, [3, 3], [2, 2], [4, 4], [5, 5, 5, 5], [6, 6, 6, 6])
        told = [call, block(1, 1, 60, 1), block(1, 2, 70, 2), block(2, 3, 80, 1), block(2, 4, 90, 2)]
        self.assertEqual(after(told, 0, balance()), [0, 300, 300, 0, 0])
        self.assertEqual(after(told, 10, balance()), [0, 300, 160, 140, 0])
        self.assertEqual(after(told, 14, balance()), [0, 300, 160, 80, 60])
        self.assertEqual(after(told, 16, balance()), [0, 300, 160, 0, 140])
        self.assertEqual(after(told, 21, balance()), [0, 300, 90, 70, 140])
        self.assertEqual(after(told, 23, balance()), [0, 300, 0, 160, 140])
        self.assertEqual(after(told, 50, balance()), [0, 300, 0, 0, 300])

    def test_first_is_the_sum_of_the_others(self):
        mixed = 0
        for seed in range(12):
            told = told_shift(seed)
            found = play(*told, *[run(3), balance()] * 100)[len(told):]
            for answer in found[1::2]:
                self.assertEqual(answer[1], sum(answer[2:]))
                mixed += min(answer[2:]) > 0
        self.assertGreater(mixed, 300)

    def test_as_shovels_trucks_and_places_tell(self):
        told = [fleet(3, 100, 2, [3, 4], [2, 1], [4, 5], [5, 6, 7, 8], [6, 5, 4, 3]),
                block(1, 1, 777, 1), block(2, 2, 555, 2), block(1, 3, 33, 2)]
        for minute in range(1, 120, 7):
            views = [shovel(1), shovel(2), truck(1), truck(2), truck(3), place(1), place(2), balance()]
            found = play(*told, run(minute), *views)[-8:]
            self.assertEqual(found[7], [0, 1365, found[0][3] + found[1][3], sum(view[5] for view in found[2:5]),
                                        found[5][2] + found[6][2]])

    def test_greatest_sum(self):
        told = [fleet()] + [block(1, number, 100000000) for number in range(1, 21)]
        self.assertEqual(last(*told, run(20), balance()), [0, 2000000000, 1999999900, 0, 100])


class BlocksCall(unittest.TestCase):
    def test_none(self):
        self.assertEqual(play(fleet(), blocks(), block(), fleet(), blocks()), [[0], [0], [0, 10], [0], [0]])

    def test_before_while_and_after_it_is_carried_away(self):
        told = [fleet(), block(1, 7, 150)]
        for minute, tipped in ((0, 0), (5, 0), (13, 0), (14, 100), (21, 100), (29, 100), (30, 150), (99, 150)):
            self.assertEqual(after(told, minute, blocks()), [0, 7, 150, tipped, 1], minute)

    def test_in_the_order_told_over_all_shovels(self):
        call = fleet(2, 100, 0, [3, 3], [2, 2], [4, 4], [5, 5, 5, 5], [6, 6, 6, 6])
        told = [call, block(2, 9, 80, 2), block(1, 5, 60, 1), block(2, 1, 90, 1), block(1, 7, 170, 2)]
        self.assertEqual(last(*told, blocks()), [0, 9, 80, 0, 2, 5, 60, 0, 1, 1, 90, 0, 1, 7, 170, 0, 2])
        self.assertEqual(last(*told, run(14), blocks()), [0, 9, 80, 80, 2, 5, 60, 60, 1, 1, 90, 0, 1, 7, 170, 0, 2])
        self.assertEqual(last(*told, run(31), blocks()), [0, 9, 80, 80, 2, 5, 60, 60, 1, 1, 90, 90, 1, 7, 170, 100, 2])
        self.assertEqual(last(*told, run(99), blocks()),
                         [0, 9, 80, 80, 2, 5, 60, 60, 1, 1, 90, 90, 1, 7, 170, 170, 2])

    def test_told_late_stands_last(self):
        found = last(fleet(), block(1, 9, 100), run(50), block(1, 3, 50), run(1), blocks())
        self.assertEqual(found, [0, 9, 100, 100, 1, 3, 50, 0, 1])

    def test_refused_ones_do_not_stand_there(self):
        found = last(fleet(), block(1, 9, 100), block(1, 9, 50), block(2, 8, 50), block(1, 7, 0), blocks())
        self.assertEqual(found, [0, 9, 100, 0, 1])

    def test_twenty(self):
        told = [block(1, 50 - number, number) for number in range(1, 21)]
        found = last(fleet(), *told, block(1, 1, 1), run(1440), blocks())
        self.assertEqual(found, [0] + [part for k in range(1, 21) for part in (50 - k, k, k, 1)])


def asked(told, where):
    return last(*told, next_shovel(where))


class NextCall(unittest.TestCase):
    def shifts(self, rule):
        # Shovel 1 is near the park and place 2, shovel 2 near place 1.
        return [fleet(4, 100, rule, [10, 10], [2, 2], [3, 9], [5] * 4, [20, 15, 3, 30]),
                block(1, 1, 5000, 1), block(2, 2, 5000, 2)]

    def test_none_with_a_shovel(self):
        for rule in (0, 1, 2):
            told = self.shifts(rule)
            self.assertEqual([asked(told, where) for where in (0, 1, 2)], [[0, 1], [0, 2], [0, 1]])

    def test_each_rule_with_trucks_with_them(self):
        # Trucks 2 to 4 stay free, so that truck 1 alone is with the shovel to which it was sent, the first.
        held = [stop_truck(t, 0, 100) for t in (2, 3, 4)]
        for rule, found in ((0, [2, 2, 2]), (1, [1, 2, 1]), (2, [2, 2, 1])):
            told = self.shifts(rule) + held + [run(1)]
            self.assertEqual(last(*told, truck(1))[:3], [0, 1, 1])
            self.assertEqual([asked(told, where) for where in (0, 1, 2)], [[0, s] for s in found], rule)

    def test_alike_in_the_first_number(self):
        told = [fleet(2, 100, 2, [4, 4], [2], [4, 8], [5, 5], [8, 4]), block(1, 1, 5000), block(2, 2, 5000),
                stop_truck(2, 0, 100), run(1)]
        self.assertEqual(last(*told, truck(1))[:3], [0, 1, 1])
        self.assertEqual(asked(told, 0), [0, 2])
        told = [fleet(2, 100, 0, [4, 4], [2], [4, 4], [5, 5], [8, 4]), block(1, 1, 5000), block(2, 2, 5000)]
        self.assertEqual([asked(told, 0), asked(told, 1)], [[0, 1], [0, 2]])

    def test_none_to_be_chosen(self):
        for rule in (0, 1, 2):
            for where in (0, 1):
                self.assertEqual(asked([fleet(rule=rule)], where), [0, 0])
                told = [fleet(n=2, rule=rule), block(1, 7, 200)]
                self.assertEqual(asked(told, where), [0, 1])
                self.assertEqual(asked(told + [run(1)], where), [0, 0])
                self.assertEqual(asked(told + [run(300)], where), [0, 0])
                self.assertEqual(asked(told + [run(300), block(1, 8, 1)], where), [0, 1])

    def test_loads_left_for_one_more(self):
        told = [fleet(n=2), block(1, 7, 201), run(1)]
        self.assertEqual(asked(told, 0), [0, 1])
        self.assertEqual(asked(told + [run(4)], 0), [0, 1])

    def test_as_the_truck_is_sent_then(self):
        for rule in (0, 1, 2):
            told = [fleet(1, 100, rule, [3, 3, 3], [2, 2], [4, 3, 5], [5] * 6, [6, 4, 9, 3, 9, 9]),
                    block(1, 1, 500, 2), block(2, 2, 900, 1), block(3, 3, 300, 1)]
            for minute in range(1, 200):
                shown = last(*told, run(minute), truck(1))
                if shown[1] == 0:
                    chosen = asked(told + [run(minute)], shown[2])[1]
                    self.assertEqual(last(*told, run(minute + 1), truck(1))[1:3], [1, chosen] if chosen else [7, shown[2]])

    def test_place_that_the_fleet_has_not(self):
        self.assertEqual([asked([fleet()], where) for where in (1, 2, 3)], [[0, 0], [-2], [-2]])
        two = fleet(1, 100, 0, [3], [2, 2], [4], [5, 5], [6, 6])
        self.assertEqual([asked([two], where) for where in (0, 2, 3)], [[0, 0], [0, 0], [-2]])


TOLD = [fleet(n=3), block(1, 7, 950), stop_truck(2, 9, 20), run(130)]


def flat(found):
    return [number for line in found for number in line]


class CheckCall(unittest.TestCase):
    def test_first_lines(self):
        whole = lines(*TOLD)
        self.assertLess(len(whole), 100)
        for many in (0, 1, 2, len(whole) - 1, len(whole)):
            self.assertEqual(last(*TOLD, check(flat(whole[:many]))), [0, 1], many)

    def test_empty_book(self):
        self.assertEqual(last(fleet(), check([])), [0, 1])
        self.assertEqual(last(fleet(), check([0] * 6)), [0, 0, 0])
        self.assertEqual(last(fleet(), check([0] * 12)), [0, 0, 0])

    def test_one_number_changed(self):
        whole = lines(*TOLD)
        for k in range(len(whole)):
            for at in range(6):
                for value in (0, whole[k][at] + 1, 100000000):
                    changed = list(whole[k])
                    changed[at] = value
                    answer = [0, 1] if value == whole[k][at] else [0, 0, k]
                    self.assertEqual(last(*TOLD, check(flat(whole[:k] + [changed] + whole[k + 1:]))), answer)

    def test_first_of_several_that_are_not_there(self):
        whole = lines(*TOLD)
        wrong = whole[:3] + [(0,) * 6] + whole[4:6] + [(1,) * 6]
        self.assertEqual(last(*TOLD, check(flat(wrong))), [0, 0, 3])

    def test_lines_in_another_order_or_left_out(self):
        whole = lines(*TOLD)
        self.assertEqual(last(*TOLD, check(flat(whole[1:3]))), [0, 0, 0])
        self.assertEqual(last(*TOLD, check(flat(whole[:4] + whole[5:]))), [0, 0, 4])
        self.assertEqual(last(*TOLD, check(flat(whole[:4] + [whole[5], whole[4]]))), [0, 0, 4])

    def test_lines_behind_the_last_one(self):
        whole = lines(*TOLD)
        self.assertEqual(last(*TOLD, check(flat(whole + whole[-1:]))), [0, 0, len(whole)])
        self.assertEqual(last(*TOLD, check(flat(whole + [(0,) * 6] * 3))), [0, 0, len(whole)])

    def test_six_hundred_numbers(self):
        told = [fleet(n=8), block(1, 7, 5000), run(300)]
        whole = lines(*told)
        self.assertGreater(len(whole), 100)
        self.assertEqual(last(*told, check(flat(whole[:100]))), [0, 1])
        self.assertEqual(last(*told, check(flat(whole[:99] + [(0,) * 6]))), [0, 0, 99])
        self.assertEqual(last(fleet(), check([100000000] * 600)), [0, 0, 0])

    def test_not_six_times_so_many(self):
        whole = flat(lines(*TOLD))
        for many in (1, 2, 3, 4, 5, 7, 11, 13, 599):
            self.assertEqual(last(*TOLD, check(whole[:many] + [0] * (many - len(whole)))), [-7], many)
            self.assertEqual(last(*TOLD, check([9] * many)), [-7], many)

    def test_call_behind_it_is_read(self):
        whole = flat(lines(*TOLD))
        found = play(*TOLD, check(whole[:6]), check([]), check([5]), check(whole[:12]), now())[4:]
        self.assertEqual(found[:4], [[0, 1], [0, 1], [-7], [0, 1]])
        self.assertEqual(found[4][:2], [0, 130])

    def test_books_of_many_shifts(self):
        for seed in range(20):
            told = told_shift(seed) + [run(60)]
            whole = lines(*told)[:100]
            self.assertEqual(last(*told, check(flat(whole))), [0, 1])


class NowCall(unittest.TestCase):
    def test_new_fleet(self):
        self.assertEqual(last(fleet(), now()), [0, 0, 1, 1, 1, 0, 0, 0, 0])
        call = fleet(7, 100, 2, [3, 3], [2, 2, 2], [4, 4], [5] * 6, [6] * 6)
        self.assertEqual(last(call, now()), [0, 0, 7, 2, 3, 2, 0, 0, 0])
        call = fleet(8, 100, 1, [3, 3, 3], [2], [4, 4, 4], [5] * 3, [6] * 3)
        self.assertEqual(last(call, now()), [0, 0, 8, 3, 1, 1, 0, 0, 0])

    def test_one_round(self):
        told = [fleet(), block(1, 7, 150)]
        for minute, numbers in ((0, [0, 0, 0]), (1, [1, 0, 1]), (4, [2, 0, 4]), (5, [3, 0, 4]), (13, [6, 0, 10]),
                                (14, [6, 1, 11]), (15, [7, 1, 12]), (30, [12, 2, 17]), (31, [13, 2, 17]),
                                (1440, [13, 2, 17])):
            self.assertEqual(after(told, minute, now()), [0, minute, 1, 1, 1, 0] + numbers, minute)

    def test_loads_of_all_places_and_minutes_of_all_shovels(self):
        call = fleet(2, 100, 0, [3, 3], [2, 2], [4, 6], [5] * 4, [6] * 4)
        told = [call, block(1, 1, 100, 1), block(2, 2, 100, 2)]
        self.assertEqual(after(told, 10, now()), [0, 10, 2, 2, 2, 0, 8, 0, 10])
        self.assertEqual(after(told, 50, now()), [0, 50, 2, 2, 2, 0, 14, 2, 10])

    def test_as_the_other_calls_tell(self):
        for seed in range(20):
            told = told_shift(seed) + [run(70), run(31)]
            found = last(*told, now())
            self.assertEqual(found[1], 101)
            self.assertEqual(found[6], len(lines(*told)))
            self.assertEqual(found[7], last(*told)[2])
            self.assertEqual(found[8], sum(last(*told, work(s + 1))[3] for s in range(found[3])))


if __name__ == "__main__":
    unittest.main()
