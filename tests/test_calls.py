"""What the calls fleet, block, stop, run, truck, shovel, place, book and minutes answer when they're done."""

import unittest

from tests.tools import (
    block, book, fleet, last, lines, minutes, place, play, run, shovel, stop_shovel, stop_truck, truck)


class FleetCall(unittest.TestCase):
    def test_new_fleet_stands_free_in_the_park(self):
        found = play(fleet(n=2), truck(1), truck(2), minutes(1), shovel(1), place(1), book())
        self.assertEqual(found, [[0], [0, 0, 0, 0, 0, 0], [0, 0, 0, 0, 0, 0], [0] + [0] * 9, [0, 0, 0, 0],
                                 [0, 0, 0, 0], [0]])

    def test_second_fleet_forgets_the_first(self):
        before = [fleet(n=2), block(number=7), stop_truck(1, 0, 1440), run(30)]
        after = [fleet(n=2), truck(1), minutes(1), shovel(1), place(1), book(), block(number=7), run(20), book()]
        self.assertEqual(play(*before, *after)[4:], play(*after))

    def test_all_sizes(self):
        for shovels in (1, 2, 3):
            for places in (1, 2, 3):
                ways = shovels * places
                call = fleet(8, 5, 2, [1] * shovels, [60] * places, [2] * shovels, [3] * ways, [4] * ways)
                found = play(call, shovel(shovels), place(places), truck(8))
                self.assertEqual([answer[0] for answer in found], [0, 0, 0, 0])
                if shovels < 3:
                    self.assertEqual(last(call, shovel(shovels + 1)), [-2])
                if places < 3:
                    self.assertEqual(last(call, place(places + 1)), [-2])

    def test_ways_are_told_row_by_row(self):
        call = fleet(1, 100, 0, [1, 1, 1], [1, 1], [11, 12, 13], [21, 22, 23, 24, 25, 26], [31, 32, 33, 34, 35, 36])
        for s in (1, 2, 3):
            for p in (1, 2):
                told = [call, block(s, 7, 200, p)]
                to_shovel = 10 + s
                onward = 20 + (s - 1) * 2 + p
                back = 30 + (p - 1) * 3 + s
                tipped = to_shovel + 1 + onward + 1
                self.assertEqual(lines(*told, run(tipped + back + 1)), [
                    (0, 1, 1, s, 0, 0), (to_shovel, 1, 2, s, 0, 0), (to_shovel, 1, 3, s, 7, 100),
                    (to_shovel + 1, 1, 4, p, 7, 100), (tipped - 1, 1, 5, p, 7, 100), (tipped - 1, 1, 6, p, 7, 100),
                    (tipped, 1, 1, s, 0, 0), (tipped + back, 1, 2, s, 0, 0), (tipped + back, 1, 3, s, 7, 100),
                    (tipped + back + 1, 1, 4, p, 7, 100)])


class BlockCall(unittest.TestCase):
    def test_loads_left_are_rounded_up_block_by_block(self):
        found = play(fleet(), block(1, 1, 1), block(1, 2, 100), block(1, 3, 101), block(1, 4, 250), shovel(1))
        self.assertEqual(found[1:], [[0, 1], [0, 2], [0, 4], [0, 7], [0, 7, 0, 452, 1, 2, 3, 4]])

    def test_loads_left_are_those_of_the_one_shovel(self):
        call = fleet(2, 100, 0, [3, 3], [2], [4, 4], [5, 5], [6, 6])
        found = play(call, block(1, 5, 300), block(2, 6, 100), shovel(1), shovel(2))
        self.assertEqual(found[1:], [[0, 3], [0, 1], [0, 3, 0, 300, 5], [0, 1, 0, 100, 6]])

    def test_ended_trucks_are_free_again_in_the_park(self):
        found = play(fleet(n=2), run(3), truck(1), block(), truck(1), truck(2), run(1), truck(2))
        self.assertEqual(found[2], [0, 7, 0, 0, 0, 0])
        self.assertEqual(found[4:6], [[0, 0, 0, 0, 0, 0]] * 2)
        self.assertEqual(found[7], [0, 1, 1, 3, 0, 0])

    def test_ended_trucks_are_free_again_at_their_place(self):
        told = [fleet(), block(1, 7, 100), run(15)]
        self.assertEqual(last(*told, truck(1)), [0, 7, 1, 0, 0, 0])
        self.assertEqual(last(*told, block(1, 8, 100), truck(1)), [0, 0, 1, 0, 0, 0])
        self.assertEqual(last(*told, block(1, 8, 100), run(1), truck(1)), [0, 1, 1, 5, 0, 0])

    def test_other_trucks_go_on_as_they_were(self):
        for gone in range(1, 14):
            told = [fleet(), block(1, 7, 100), run(gone)]
            self.assertEqual(last(*told, block(1, 8, 100), truck(1)), last(*told, truck(1)))

    def test_twenty_blocks(self):
        told = [block(1, number, 100) for number in range(1, 21)]
        found = play(fleet(), *told, block(1, 21, 100), shovel(1))
        self.assertEqual(found[20:], [[0, 20], [-4], [0, 20, 0, 2000] + list(range(1, 21))])

    def test_blocks_that_are_gone_count_among_the_twenty(self):
        told = [block(1, number, 1) for number in range(1, 21)]
        self.assertEqual(last(fleet(n=8), *told, run(500), shovel(1)), [0, 0, 0, 0])
        self.assertEqual(last(fleet(n=8), *told, run(500), block(1, 21)), [-4])
        self.assertEqual(last(fleet(n=8), *told, run(500), fleet(), block(1, 1)), [0, 10])

    def test_number_stays_told_when_the_block_is_gone(self):
        told = [fleet(), block(1, 7, 100), run(40)]
        self.assertEqual(last(*told, block(1, 7, 100)), [-3])
        self.assertEqual(last(*told, block(1, 8, 100)), [0, 1])
        self.assertEqual(last(*told, fleet(), block(1, 7, 100)), [0, 1])

    def test_same_number_before_another_shovel(self):
        call = fleet(2, 100, 0, [3, 3], [2], [4, 4], [5, 5], [6, 6])
        self.assertEqual(last(call, block(1, 5), block(2, 5)), [-3])


class StopCall(unittest.TestCase):
    def test_from_now_on_and_not_from_before(self):
        told = [fleet(), run(10)]
        self.assertEqual(last(*told, stop_truck(1, 9, 5)), [-5])
        self.assertEqual(last(*told, stop_truck(1, 10, 5)), [0])
        self.assertEqual(last(*told, stop_shovel(1, 9, 1440)), [-5])
        self.assertEqual(last(*told, stop_shovel(1, 10, 1440)), [0])
        self.assertEqual(last(fleet(), stop_truck(1, 0, 1)), [0])

    def test_last_minute(self):
        told = [fleet(), run(1440)]
        self.assertEqual(last(*told, stop_truck(1, 1440, 1440)), [0])
        self.assertEqual(last(*told, stop_truck(1, 1439, 1440)), [-5])

    def test_twenty_stops_of_both_kinds(self):
        told = [stop_truck(1, k, 1) for k in range(10)] + [stop_shovel(1, k, 1) for k in range(10)]
        found = play(fleet(), *told, stop_truck(1, 100, 1), stop_shovel(1, 100, 1), fleet(), stop_truck(1, 0, 1))
        self.assertEqual(found, [[0]] * 21 + [[-4], [-4], [0], [0]])

    def test_stops_that_are_over_count_among_the_twenty(self):
        told = [stop_truck(1, 0, 1)] * 20
        self.assertEqual(last(fleet(), *told, run(100), stop_truck(1, 100, 1)), [-4])

    def test_stop_holds_in_its_minutes_alone(self):
        found = play(fleet(), block(), stop_truck(1, 2, 3), run(2), truck(1), run(3), truck(1), run(1), truck(1),
                     minutes(1))
        self.assertEqual(found[4], [0, 1, 1, 2, 0, 0])
        self.assertEqual(found[6], [0, 1, 1, 2, 0, 0])
        self.assertEqual(found[8], [0, 1, 1, 1, 0, 0])
        self.assertEqual(found[9], [0, 0, 3, 0, 0, 0, 0, 0, 0, 3])

    def test_stops_that_overlap_are_not_added(self):
        found = last(fleet(), block(), stop_truck(1, 2, 5), stop_truck(1, 4, 6), stop_truck(1, 5, 1), run(14),
                     minutes(1))
        self.assertEqual(found, [0, 0, 4, 0, 2, 0, 0, 0, 0, 8])


class RunCall(unittest.TestCase):
    def test_minute_and_loads(self):
        found = play(fleet(), block(), run(13), run(1), run(15), run(1), run(1))
        self.assertEqual(found[2:], [[0, 13, 0], [0, 14, 1], [0, 29, 1], [0, 30, 2], [0, 31, 2]])

    def test_up_to_1440(self):
        self.assertEqual(play(fleet(), run(1440), run(1)), [[0], [0, 1440, 0], [-6]])
        self.assertEqual(play(fleet(), run(1), run(1440), run(1439), run(1)),
                         [[0], [0, 1, 0], [-6], [0, 1440, 0], [-6]])

    def test_in_pieces_as_in_one(self):
        told = [fleet(n=3), block(1, 7, 950), stop_truck(2, 9, 20), stop_shovel(1, 30, 12)]
        whole = lines(*told, run(200))
        self.assertEqual(lines(*told, *[run(1)] * 200), whole)
        self.assertEqual(lines(*told, run(37), run(102), run(61)), whole)

    def test_loads_of_all_places(self):
        call = fleet(2, 100, 0, [3, 3], [2, 2], [4, 4], [5] * 4, [6] * 4)
        found = play(call, block(1, 1, 100, 1), block(2, 2, 100, 2), run(50), place(1), place(2))
        self.assertEqual(found[3:], [[0, 50, 2], [0, 1, 100, 0], [0, 1, 100, 0]])


class TruckCall(unittest.TestCase):
    def test_one_round(self):
        told = [fleet(), block(1, 7, 150)]
        expected = {
            0: [0, 0, 0, 0, 0], 1: [1, 1, 3, 0, 0], 3: [1, 1, 1, 0, 0], 4: [2, 1, 0, 0, 0], 5: [3, 1, 2, 7, 100],
            6: [3, 1, 1, 7, 100], 7: [4, 1, 5, 7, 100], 8: [4, 1, 4, 7, 100], 11: [4, 1, 1, 7, 100],
            12: [5, 1, 0, 7, 100], 13: [6, 1, 1, 7, 100], 14: [0, 1, 0, 0, 0], 15: [1, 1, 5, 0, 0],
            20: [2, 1, 0, 0, 0], 21: [3, 1, 2, 7, 50], 23: [4, 1, 5, 7, 50], 28: [5, 1, 0, 7, 50],
            30: [0, 1, 0, 0, 0], 31: [7, 1, 0, 0, 0], 99: [7, 1, 0, 0, 0]}
        for minute, state in expected.items():
            gone = [run(minute)] if minute > 0 else []
            self.assertEqual(last(*told, *gone, truck(1)), [0] + state, minute)


class ShovelCall(unittest.TestCase):
    def test_coming_is_on_the_way_or_waiting_but_not_loaded(self):
        told = [fleet(n=3), block(1, 7, 950)]
        self.assertEqual(last(*told, shovel(1)), [0, 10, 0, 950, 7])
        self.assertEqual(last(*told, run(1), shovel(1)), [0, 10, 3, 950, 7])
        self.assertEqual(last(*told, run(4), shovel(1)), [0, 10, 3, 950, 7])
        self.assertEqual(last(*told, run(5), shovel(1)), [0, 9, 2, 850, 7])
        self.assertEqual(last(*told, run(8), shovel(1)), [0, 8, 1, 750, 7])

    def test_blocks_go_one_after_another(self):
        told = [fleet(), block(1, 9, 150), block(1, 2, 60)]
        self.assertEqual(last(*told, shovel(1)), [0, 3, 0, 210, 9, 2])
        self.assertEqual(last(*told, run(5), shovel(1)), [0, 2, 0, 110, 9, 2])
        self.assertEqual(last(*told, run(21), shovel(1)), [0, 1, 0, 60, 2])
        self.assertEqual(last(*told, run(37), shovel(1)), [0, 0, 0, 0])


class PlaceCall(unittest.TestCase):
    def test_tipped_when_the_tipping_is_over(self):
        told = [fleet(), block(1, 7, 150)]
        self.assertEqual(last(*told, run(13), place(1)), [0, 0, 0, 0])
        self.assertEqual(last(*told, run(14), place(1)), [0, 1, 100, 0])
        self.assertEqual(last(*told, run(30), place(1)), [0, 2, 150, 0])

    def test_how_many_wait(self):
        told = [fleet(n=3, tipping=(60,)), block()]
        self.assertEqual(last(*told, run(12), place(1)), [0, 0, 0, 1])
        self.assertEqual(last(*told, run(13), place(1)), [0, 0, 0, 0])
        self.assertEqual(last(*told, run(15), place(1)), [0, 0, 0, 1])
        self.assertEqual(last(*told, run(18), place(1)), [0, 0, 0, 2])
        self.assertEqual(last(*told, run(73), place(1)), [0, 1, 100, 1])

    def test_stopped_trucks_wait_too(self):
        told = [fleet(), block(), stop_truck(1, 12, 5), run(14), place(1)]
        self.assertEqual(last(*told), [0, 0, 0, 1])


class MinutesCall(unittest.TestCase):
    def test_one_round(self):
        told = [fleet(), block(1, 7, 150)]
        self.assertEqual(last(*told, minutes(1)), [0] + [0] * 9)
        self.assertEqual(last(*told, run(14), minutes(1)), [0, 0, 4, 0, 3, 5, 0, 2, 0, 0])
        self.assertEqual(last(*told, run(40), minutes(1)), [0, 0, 10, 0, 6, 10, 0, 4, 10, 0])

    def test_waiting_is_counted(self):
        told = [fleet(n=2, tipping=(10,)), block(1, 7, 200), run(50)]
        self.assertEqual(last(*told, minutes(2)), [0, 0, 4, 3, 3, 5, 7, 10, 18, 0])

    def test_stopped_alone_whatever_it_does(self):
        told = [fleet(), block(1, 7, 100)]
        self.assertEqual(last(*told, stop_truck(1, 0, 1440), run(1440), minutes(1)), [0] + [0] * 8 + [1440])
        self.assertEqual(last(*told, stop_truck(1, 100, 10), run(110), minutes(1)), [0, 0, 4, 0, 3, 5, 0, 2, 86, 10])

    def test_loaded_by_a_stopped_shovel_is_loaded(self):
        told = [fleet(), block(), stop_shovel(1, 5, 10), run(17), minutes(1)]
        self.assertEqual(last(*told), [0, 0, 4, 0, 13, 0, 0, 0, 0, 0])

    def test_free_is_counted_only_while_stopped_as_stopped(self):
        told = [fleet(n=2), block(), stop_truck(2, 0, 3), run(4)]
        self.assertEqual(last(*told, minutes(2)), [0, 0, 1, 0, 0, 0, 0, 0, 0, 3])


if __name__ == "__main__":
    unittest.main()
