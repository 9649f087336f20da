"""Each refusal, the edges of each range, which refusal is looked at first, and that a refusal changes nothing."""

import unittest

from tests.tools import (
    ahead, balance, block, blocks, book, check, fewest, fleet, last, look, minutes, next_shovel, now, other, place, play,
    run, shovel, stop_truck, truck, work)

FAR = 1000000000000000000

# For each call a form that is let in by BIG, and for each argument: its place in the call, its least, its greatest.
BIG = fleet(8, 100, 0, [3] * 3, [2] * 3, [4] * 3, [5] * 9, [6] * 9)
PLAIN = [
    (fleet(), [(1, 1, 8), (2, 1, 1000000), (3, 0, 2)]),
    (block(), [(1, 1, 3), (2, 1, 1000000), (3, 1, 100000000), (4, 1, 3)]),
    ([2, 0, 1, 0, 1], [(1, 0, 1), (2, 1, 8), (3, 0, 1440), (4, 1, 1440)]),
    (run(1), [(1, 1, 1440)]),
    (truck(1), [(1, 1, 8)]),
    (shovel(1), [(1, 1, 3)]),
    (place(1), [(1, 1, 3)]),
    (book(0), [(1, 0, 1000000)]),
    (minutes(1), [(1, 1, 8)]),
    (work(1), [(1, 1, 3)]),
    (balance(), []),
    (blocks(), []),
    (next_shovel(0), [(1, 0, 3)]),
    (check([0] * 12), [(at, 0, 100000000) for at in range(2, 14)]),
    (other(0, 1), [(1, 0, 2), (2, 1, 8)]),
    (fewest(0), [(1, 0, 10000)]),
    (ahead(1), [(1, 1, 1440)]),
    (now(), []),
]
LISTS = ("loading", "tipping", "park", "onward", "back")
MOST_MEMBERS = {"loading": 3, "tipping": 3, "park": 3, "onward": 9, "back": 9}


def changed(call, at, value):
    return call[:at] + [value] + call[at + 1:]


def fleet_with(**rows):
    full = {"loading": [3] * 3, "tipping": [2] * 3, "park": [4] * 3, "onward": [5] * 9, "back": [6] * 9}
    return fleet(8, 100, 0, **{**full, **rows})


class Ranges(unittest.TestCase):
    def test_least_and_greatest_are_let_in(self):
        for call, edges in PLAIN:
            for at, least, greatest in edges:
                for value in (least, greatest):
                    self.assertEqual(last(BIG, changed(call, at, value))[0], 0, (call, at, value))

    def test_just_outside_and_far_outside(self):
        for call, edges in PLAIN:
            for at, least, greatest in edges:
                for value in (least - 1, greatest + 1, -FAR, FAR):
                    self.assertEqual(last(BIG, changed(call, at, value)), [-1], (call, at, value))

    def test_ahead_of_no_fleet(self):
        for call, edges in PLAIN:
            for at, least, greatest in edges:
                for value in (least - 1, greatest + 1):
                    self.assertEqual(last(changed(call, at, value)), [-1], (call, at, value))

    def test_every_combination_of_wrong_ones(self):
        self.assertEqual(last(BIG, block(0, 0, 0, 0)), [-1])
        self.assertEqual(last(BIG, block(4, 1, 1, 4)), [-1])
        self.assertEqual(last(BIG, [2, 2, 9, 1441, 0]), [-1])

    def test_members_of_each_list(self):
        for name in LISTS:
            most = MOST_MEMBERS[name]
            for at in range(most):
                for value, answer in ((0, -1), (1, 0), (60, 0), (61, -1), (-FAR, -1), (FAR, -1)):
                    row = changed([9] * most, at, value)
                    self.assertEqual(last(fleet_with(**{name: row})), [answer], (name, row))

    def test_too_few_and_too_many_members(self):
        for name in LISTS:
            for many in (0, MOST_MEMBERS[name] + 1, 600):
                self.assertEqual(last(fleet_with(**{name: [9] * many})), [-1], (name, many))

    def test_call_behind_a_list_of_another_length_is_read(self):
        for name in LISTS:
            for many in (0, 2, 600):
                found = play(fleet_with(**{name: [FAR] * many}), BIG, truck(8), truck(9))
                self.assertEqual(found, [[-1], [0], [0] * 6, [-1]])

    def test_members_of_check(self):
        self.assertEqual([last(BIG, check([value] * many)) for many in (6, 600) for value in (0, 100000000)],
                         [[0, 0, 0]] * 4)
        for many in (1, 5, 6, 600):
            for at in (0, many - 1):
                for value in (-1, 100000001, -FAR, FAR):
                    self.assertEqual(last(BIG, check(changed([0] * many, at, value))), [-1], (many, at, value))

    def test_fewest_and_most_members_of_check(self):
        self.assertEqual(last(BIG, check([])), [0, 1])
        self.assertEqual(last(BIG, check([0] * 600)), [0, 0, 0])
        self.assertEqual(last(BIG, check([0] * 601)), [-1])
        self.assertEqual(last(BIG, check([0] * 606)), [-1])
        self.assertEqual(last(check([0] * 606)), [-1])

    def test_block_of_the_greatest_and_least_loads(self):
        self.assertEqual(play(fleet(carries=1), block(1, 1, 100000000), shovel(1))[1:],
                         [[0, 100000000], [0, 100000000, 0, 100000000, 1]])
        self.assertEqual(last(fleet(carries=1000000), block(1, 1000000, 1)), [0, 1])


class UnfitLists(unittest.TestCase):
    def test_each_list(self):
        self.assertEqual(last(fleet(park=(4, 4))), [-7])
        self.assertEqual(last(fleet_with(park=[4] * 2)), [-7])
        for many in range(1, 9):
            self.assertEqual(last(fleet_with(onward=[5] * many)), [-7])
            self.assertEqual(last(fleet_with(back=[5] * many)), [-7])
        self.assertEqual(last(fleet(onward=(5, 5))), [-7])
        self.assertEqual(last(fleet(back=(5, 5))), [-7])
        self.assertEqual(last(fleet_with(loading=[3] * 2)), [-7])
        self.assertEqual(last(fleet_with(tipping=[3] * 2)), [-7])

    def test_ways_are_not_counted_by_shovels_or_places_alone(self):
        two = {"loading": [3] * 2, "park": [4] * 2, "tipping": [2] * 3}
        self.assertEqual(last(fleet_with(**two, onward=[5] * 6, back=[6] * 6)), [0])
        for many in (2, 3, 4, 5, 7, 9):
            self.assertEqual(last(fleet_with(**two, onward=[5] * many, back=[6] * 6)), [-7])
            self.assertEqual(last(fleet_with(**two, onward=[5] * 6, back=[6] * many)), [-7])

    def test_check(self):
        told = [fleet(), block(), run(30)]
        for many in (1, 2, 3, 4, 5, 7, 8, 13, 594 + 5, 599):
            self.assertEqual(last(*told, check([0] * many)), [-7], many)

    def test_check_ahead_of_what_the_lines_say(self):
        told = [fleet(), block(), run(30)]
        line = last(*told, book())[1:7]
        self.assertEqual(last(*told, check(line)), [0, 1])
        self.assertEqual(last(*told, check(line + [0])), [-7])
        self.assertEqual(last(*told, check([9] * 7)), [-7])
        self.assertEqual(last(*told, check([0] * 599)), [-7])

    def test_range_is_looked_at_first_of_check(self):
        self.assertEqual(last(fleet(), check([100000001])), [-1])
        self.assertEqual(last(fleet(), check([0, 0, -1])), [-1])
        self.assertEqual(last(fleet(), check([0] * 601)), [-1])

    def test_range_is_looked_at_first(self):
        self.assertEqual(last(fleet(park=(4, 61))), [-1])
        self.assertEqual(last(fleet(n=9, park=(4, 4))), [-1])
        self.assertEqual(last(fleet(park=(4, 4), back=(0,))), [-1])


class NoFleet(unittest.TestCase):
    def test_every_call_but_fleet(self):
        for call, edges in PLAIN[1:]:
            self.assertEqual(last(call), [-8])

    def test_refused_fleet_is_none(self):
        self.assertEqual(play(fleet(n=0), fleet(park=(4, 4)), truck(1), now()), [[-1], [-7], [-8], [-8]])

    def test_ahead_of_the_others(self):
        self.assertEqual(last(truck(8)), [-8])
        self.assertEqual(last(block(3, 7, 1, 3)), [-8])
        self.assertEqual(last([2, 1, 8, 0, 1]), [-8])
        self.assertEqual(last(run(1440)), [-8])
        self.assertEqual(last(work(3)), [-8])
        self.assertEqual(last(next_shovel(3)), [-8])
        self.assertEqual(last(check([0] * 5)), [-8])
        self.assertEqual(last(ahead(1440)), [-8])


class NoSuch(unittest.TestCase):
    def test_each_call(self):
        for call in (truck(2), truck(8), minutes(2), minutes(8), shovel(2), shovel(3), place(2), place(3),
                     block(2), block(3), block(p=2), block(p=3), block(2, 7, 1, 2), [2, 0, 2, 0, 1], [2, 0, 8, 0, 1],
                     [2, 1, 2, 0, 1], [2, 1, 3, 0, 1], [2, 1, 4, 0, 1], [2, 1, 8, 0, 1], work(2), work(3),
                     next_shovel(2), next_shovel(3)):
            self.assertEqual(last(fleet(), call), [-2], call)

    def test_stop_of_a_truck_is_not_measured_by_shovels(self):
        told = fleet(2, 100, 0, [3] * 3, [2], [4] * 3, [5] * 3, [6] * 3)
        self.assertEqual(play(told, [2, 0, 2, 0, 1], [2, 0, 3, 0, 1], [2, 1, 3, 0, 1], [2, 1, 4, 0, 1]),
                         [[0], [0], [-2], [0], [-2]])

    def test_next_is_measured_by_places_and_work_by_shovels(self):
        told = fleet(2, 100, 0, [3] * 3, [2], [4] * 3, [5] * 3, [6] * 3)
        self.assertEqual(play(told, work(3), next_shovel(1), next_shovel(2)), [[0], [0] * 5, [0, 0], [-2]])
        told = fleet(2, 100, 0, [3], [2] * 3, [4], [5] * 3, [6] * 3)
        self.assertEqual(play(told, work(1), work(2), next_shovel(3)), [[0], [0] * 5, [-2], [0, 0]])

    def test_other_has_no_such_truck_to_miss(self):
        self.assertEqual(last(fleet(n=1), other(2, 8)), [0, 0, 0, 0])

    def test_ahead_of_the_further_ones(self):
        twenty = [block(1, number, 100) for number in range(1, 21)]
        stops = [stop_truck(1, 0, 1)] * 20
        self.assertEqual(last(fleet(), block(1, 7), block(2, 7)), [-2])
        self.assertEqual(last(fleet(), block(1, 7), block(1, 7, 1, 2)), [-2])
        self.assertEqual(last(fleet(), *twenty, block(2, 21)), [-2])
        self.assertEqual(last(fleet(), run(5), stop_truck(2, 0, 1)), [-2])
        self.assertEqual(last(fleet(), *stops, stop_truck(2, 0, 1)), [-2])


class FurtherOnes(unittest.TestCase):
    def test_told_block_ahead_of_twenty(self):
        twenty = [block(1, number, 100) for number in range(1, 21)]
        self.assertEqual(play(fleet(), *twenty, block(1, 20), block(1, 21))[21:], [[-3], [-4]])

    def test_too_early_ahead_of_twenty(self):
        stops = [stop_truck(1, 0, 1)] * 20
        self.assertEqual(play(fleet(), *stops, run(5), stop_truck(1, 4, 1), stop_truck(1, 5, 1))[22:], [[-5], [-4]])

    def test_refused_ones_are_not_counted_among_the_twenty(self):
        stops = [stop_truck(1, 5, 1)] * 19
        found = play(fleet(), run(5), *stops, stop_truck(1, 4, 1), stop_truck(2, 5, 1), stop_truck(1, 5, 1))
        self.assertEqual(found[21:], [[-5], [-2], [0]])
        nineteen = [block(1, number, 100) for number in range(1, 20)]
        found = play(fleet(), *nineteen, block(1, 1), block(2, 20), block(1, 20, 0), block(1, 20))
        self.assertEqual(found[20:], [[-3], [-2], [-1], [0, 29]])


    def test_ahead_of_the_last_minute_as_run(self):
        for gone in (1, 700, 1439, 1440):
            told = [fleet(), block(), run(gone)]
            for n in (1, 2, 740, 741, 1439, 1440):
                late = gone + n > 1440
                self.assertEqual(last(*told, ahead(n)) == [-6], late)
                self.assertEqual(last(*told, run(n)) == [-6], late)


class NothingChanges(unittest.TestCase):
    def check(self, told, call, refusal):
        views = look(3, 1, 1)
        found = play(*told, *views, call, *views, run(40), *views)
        size = len(views)
        first = found[len(told):len(told) + size]
        self.assertEqual(found[len(told) + size], [refusal])
        self.assertEqual(found[len(told) + size + 1:len(told) + 2 * size + 1], first)
        self.assertEqual(found[len(told) + 2 * size + 1:], play(*told, run(40), *views)[len(told):])

    def test_in_the_midst_of_a_shift(self):
        told = [fleet(n=3), block(1, 7, 350), block(1, 8, 90), stop_truck(2, 3, 9), run(17)]
        for call, refusal in (
                (fleet(n=9), -1), (fleet(park=(61,)), -1), (fleet(loading=()), -1), (fleet(park=(4, 4)), -7),
                (fleet(onward=(4, 4)), -7), (fleet(back=(4, 4)), -7), (block(1, 9, 0), -1), (block(2, 9), -2),
                (block(1, 9, 500, 2), -2), (block(1, 7), -3), (stop_truck(1, 17, 0), -1), (stop_truck(4, 17, 5), -2),
                ([2, 1, 2, 17, 5], -2), (stop_truck(1, 16, 5), -5), (run(0), -1), (run(1424), -6), (truck(0), -1),
                (truck(4), -2), (shovel(2), -2), (place(2), -2), (book(-1), -1), (minutes(4), -2), (work(0), -1),
                (work(2), -2), (next_shovel(4), -1), (next_shovel(2), -2), (check([0] * 5 + [-1]), -1),
                (check([0] * 5), -7), (other(3, 1), -1), (other(0, 9), -1), (fewest(-1), -1), (fewest(10001), -1),
                (ahead(0), -1), (ahead(1424), -6)):
            self.check(told, call, refusal)

    def test_refused_block_frees_no_truck(self):
        told = [fleet(n=3), block(1, 7, 50), run(60)]
        self.assertEqual(last(*told, truck(1)), [0, 7, 1, 0, 0, 0])
        for call, refusal in ((block(1, 7), -3), (block(2, 8), -2), (block(1, 8, 0), -1)):
            self.check(told, call, refusal)
        full = [fleet(n=3)] + [block(1, number, 1) for number in range(1, 21)] + [run(300)]
        self.assertEqual(last(*full, truck(1)), [0, 7, 1, 0, 0, 0])
        self.check(full, block(1, 21), -4)

    def test_refused_stop_at_twenty(self):
        told = [fleet(n=3), block()] + [stop_truck(1, 0, 1)] * 20 + [run(5)]
        self.check(told, stop_truck(2, 5, 20), -4)


if __name__ == "__main__":
    unittest.main()
