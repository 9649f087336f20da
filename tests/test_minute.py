"""The five steps of a minute, queues, stops at each step, and the book."""

import unittest

from tests.tools import (
    block, book, fleet, last, lines, minutes, play, run, shovel, stop_shovel, stop_truck, truck, work)


def only(found, does):
    return [line for line in found if line[2] == does]


def counts_of_shovel(s, *calls):
    return last(*calls, work(s))[1:]


# Three trucks that come to the one shovel in the order 3, 2, 1, a minute after another.
BACKWARD = [stop_truck(1, 0, 2), stop_truck(2, 0, 1), block()]


class Book(unittest.TestCase):
    def test_one_round(self):
        self.assertEqual(lines(fleet(), block(1, 7, 150), run(40)), [
            (0, 1, 1, 1, 0, 0), (4, 1, 2, 1, 0, 0), (4, 1, 3, 1, 7, 100), (7, 1, 4, 1, 7, 100),
            (12, 1, 5, 1, 7, 100), (12, 1, 6, 1, 7, 100), (14, 1, 1, 1, 0, 0), (20, 1, 2, 1, 0, 0),
            (20, 1, 3, 1, 7, 50), (23, 1, 4, 1, 7, 50), (28, 1, 5, 1, 7, 50), (28, 1, 6, 1, 7, 50),
            (30, 1, 7, 1, 0, 0)])

    def test_order_within_a_minute(self):
        self.assertEqual(lines(fleet(n=2, tipping=(10,)), block(1, 7, 300), run(23)), [
            (0, 1, 1, 1, 0, 0), (0, 2, 1, 1, 0, 0), (4, 1, 2, 1, 0, 0), (4, 2, 2, 1, 0, 0), (4, 1, 3, 1, 7, 100),
            (7, 1, 4, 1, 7, 100), (7, 2, 3, 1, 7, 100), (10, 2, 4, 1, 7, 100), (12, 1, 5, 1, 7, 100),
            (12, 1, 6, 1, 7, 100), (15, 2, 5, 1, 7, 100), (22, 1, 1, 1, 0, 0), (22, 2, 6, 1, 7, 100)])

    def test_places_ahead_of_shovels_and_each_rising(self):
        told = fleet(4, 100, 1, [5, 5], [5, 5], [1, 1], [1] * 4, [1] * 4)
        found = lines(told, block(1, 1, 9000, 2), block(2, 2, 9000, 1), run(8))
        self.assertEqual([line[:4] for line in found if line[0] == 1],
                         [(1, 1, 2, 1), (1, 2, 2, 2), (1, 3, 2, 1), (1, 4, 2, 2), (1, 1, 3, 1), (1, 2, 3, 2)])
        self.assertEqual([line[:4] for line in found if line[0] in (6, 7)],
                         [(6, 1, 4, 2), (6, 2, 4, 1), (6, 3, 3, 1), (6, 4, 3, 2), (7, 1, 5, 2), (7, 2, 5, 1),
                          (7, 2, 6, 1), (7, 1, 6, 2)])

    def test_tipping_is_written_ahead_of_loading(self):
        told = fleet(3, 100, 0, [1], [9], [1], [1], [1])
        found = lines(told, block(), run(4))
        self.assertEqual([line[:4] for line in found if line[0] == 3],
                         [(3, 1, 5, 1), (3, 2, 4, 1), (3, 1, 6, 1), (3, 3, 3, 1)])

    def test_fifty_lines_at_most(self):
        told = [fleet(n=8), block(1, 7, 5000), run(300)]
        whole = lines(*told)
        self.assertGreater(len(whole), 110)
        flat = [number for line in whole for number in line]
        for k in (0, 1, 49, 50, 51, len(whole) - 51, len(whole) - 50, len(whole) - 49, len(whole) - 1):
            self.assertEqual(last(*told, book(k)), [0] + flat[6 * k:6 * k + 300], k)
        for k in (len(whole), len(whole) + 1, 1000000):
            self.assertEqual(last(*told, book(k)), [0])
        self.assertEqual(len(last(*told, book(0))), 301)

    def test_free_again_is_not_written(self):
        told = [fleet(), run(1)]
        self.assertEqual(lines(*told, block()), [(0, 1, 7, 0, 0, 0)])


class Queues(unittest.TestCase):
    def test_at_the_shovel_the_one_that_came_first(self):
        found = lines(fleet(n=3), *BACKWARD, stop_shovel(1, 0, 20), run(27))
        self.assertEqual([line[:2] for line in only(found, 2)], [(4, 3), (5, 2), (6, 1)])
        self.assertEqual([line[:2] for line in only(found, 3)], [(20, 3), (23, 2), (26, 1)])

    def test_at_the_shovel_of_those_alike_the_least_number(self):
        found = lines(fleet(n=3), block(), run(11))
        self.assertEqual([line[:2] for line in only(found, 3)], [(4, 1), (7, 2), (10, 3)])

    def test_at_the_place_the_one_that_came_first(self):
        found = lines(fleet(n=3, tipping=(30,)), *BACKWARD, run(73))
        self.assertEqual([line[:2] for line in only(found, 5)], [(12, 3), (15, 2), (18, 1), (56, 3)])
        self.assertEqual([line[:2] for line in only(found, 6)], [(12, 3), (42, 2), (72, 1)])

    def test_at_the_place_of_those_alike_the_least_number(self):
        told = fleet(3, 100, 0, [3] * 3, [30], [4] * 3, [5] * 3, [6] * 3)
        found = lines(told, block(1, 1, 100), block(2, 2, 100), block(3, 3, 100), run(73))
        self.assertEqual([line[:2] for line in only(found, 5)], [(12, 1), (12, 2), (12, 3)])
        self.assertEqual([line[:2] for line in only(found, 6)], [(12, 1), (42, 2), (72, 3)])

    def test_each_queue_by_itself(self):
        told = fleet(2, 100, 0, [3, 3], [30, 30], [4, 4], [5] * 4, [6] * 4)
        found = lines(told, block(1, 1, 100, 1), block(2, 2, 100, 2), run(13))
        self.assertEqual([line[:4] for line in only(found, 3)], [(4, 1, 3, 1), (4, 2, 3, 2)])
        self.assertEqual([line[:4] for line in only(found, 6)], [(12, 1, 6, 1), (12, 2, 6, 2)])


class StoppedTruck(unittest.TestCase):
    def test_free_is_not_sent(self):
        found = lines(fleet(n=2), block(), stop_truck(1, 0, 3), run(4))
        self.assertEqual(found, [(0, 2, 1, 1, 0, 0), (3, 1, 1, 1, 0, 0), (4, 2, 2, 1, 0, 0)])

    def test_free_does_not_end(self):
        self.assertEqual(lines(fleet(), stop_truck(1, 0, 3), run(4)), [(3, 1, 7, 0, 0, 0)])
        self.assertEqual(last(fleet(), stop_truck(1, 0, 3), run(3), truck(1)), [0, 0, 0, 0, 0, 0])

    def test_at_the_shovel_the_next_is_loaded(self):
        found = lines(fleet(n=3), *BACKWARD, stop_shovel(1, 0, 20), stop_truck(3, 20, 4), run(27))
        self.assertEqual([line[:2] for line in only(found, 3)], [(20, 2), (23, 1), (26, 3)])
        found = lines(fleet(n=3), *BACKWARD, stop_shovel(1, 0, 20), stop_truck(3, 20, 3), run(27))
        self.assertEqual([line[:2] for line in only(found, 3)], [(20, 2), (23, 3), (26, 1)])

    def test_at_the_shovel_alone(self):
        found = lines(fleet(), block(), stop_truck(1, 4, 3), run(9))
        self.assertEqual(only(found, 3), [(7, 1, 3, 1, 7, 100)])

    def test_at_the_place_the_next_tips(self):
        found = lines(fleet(n=3, tipping=(30,)), *BACKWARD, stop_truck(2, 42, 3), run(73))
        self.assertEqual([line[:2] for line in only(found, 6)], [(12, 3), (42, 1), (72, 2)])

    def test_at_the_place_alone(self):
        found = lines(fleet(), block(), stop_truck(1, 12, 3), run(18))
        self.assertEqual([line[:2] for line in only(found, 6)], [(15, 1)])
        self.assertEqual(found[-1], (17, 1, 1, 1, 0, 0))

    def test_tipping_holds_the_place(self):
        told = [fleet(n=3, tipping=(30,)), *BACKWARD, stop_truck(3, 20, 10)]
        self.assertEqual([line[:2] for line in only(lines(*told, run(53)), 6)], [(12, 3), (52, 2)])
        self.assertEqual(last(*told, run(52), minutes(3)), [0, 0, 4, 0, 3, 5, 0, 30, 0, 10])

    def test_loaded_holds_the_shovel(self):
        told = [fleet(n=2), block(), stop_truck(1, 5, 10)]
        self.assertEqual([line[:3] for line in lines(*told, run(18))[4:]],
                         [(4, 1, 3), (17, 1, 4), (17, 2, 3)])
        self.assertEqual(last(*told, run(17), minutes(1)), [0, 0, 4, 0, 3, 0, 0, 0, 0, 10])
        self.assertEqual(last(*told, run(17), minutes(2)), [0, 0, 4, 13, 0, 0, 0, 0, 0, 0])

    def test_on_each_way(self):
        found = lines(fleet(), block(), stop_truck(1, 3, 2), stop_truck(1, 10, 4), run(25))
        self.assertEqual([line[:3] for line in found], [
            (0, 1, 1), (6, 1, 2), (6, 1, 3), (9, 1, 4), (18, 1, 5), (18, 1, 6), (20, 1, 1)])

    def test_one_truck_stopped_and_not_the_other(self):
        told = [fleet(n=2), block(), stop_truck(2, 1, 2), run(3)]
        self.assertEqual(last(*told, truck(1)), [0, 1, 1, 1, 0, 0])
        self.assertEqual(last(*told, truck(2)), [0, 1, 1, 3, 0, 0])


class StoppedShovel(unittest.TestCase):
    def test_begins_no_loading(self):
        found = lines(fleet(), block(), stop_shovel(1, 4, 6), run(11))
        self.assertEqual(only(found, 3), [(10, 1, 3, 1, 7, 100)])
        self.assertEqual(last(fleet(), block(), stop_shovel(1, 4, 6), run(10), shovel(1)), [0, 10, 1, 1000, 7])

    def test_holds_the_truck_that_it_loads(self):
        told = [fleet(n=2), block(), stop_shovel(1, 5, 10)]
        self.assertEqual([line[:3] for line in lines(*told, run(18))[4:]],
                         [(4, 1, 3), (17, 1, 4), (17, 2, 3)])
        self.assertEqual(last(*told, run(17), minutes(1)), [0, 0, 4, 0, 13, 0, 0, 0, 0, 0])

    def test_holds_no_other_truck(self):
        told = fleet(2, 100, 0, [3, 3], [2], [4, 4], [5, 5], [6, 6])
        found = lines(told, block(1, 1, 100), block(2, 2, 100), stop_shovel(1, 0, 100), run(20))
        self.assertEqual([line[:3] for line in found if line[1] == 2],
                         [(0, 2, 1), (4, 2, 2), (4, 2, 3), (7, 2, 4), (12, 2, 5), (12, 2, 6), (14, 2, 7)])
        self.assertEqual([line[:3] for line in found if line[1] == 1], [(0, 1, 1), (4, 1, 2)])

    def test_truck_and_shovel_of_one_number_are_two_things(self):
        self.assertEqual(last(fleet(), block(), stop_shovel(1, 0, 3), run(3), truck(1)), [0, 1, 1, 1, 0, 0])
        self.assertEqual(last(fleet(), block(), stop_truck(1, 0, 3), run(3), truck(1)), [0, 0, 0, 0, 0, 0])

    def test_both_stopped_while_loading(self):
        told = [fleet(), block(), stop_shovel(1, 5, 4), stop_truck(1, 7, 4), run(13)]
        self.assertEqual(lines(*told)[-1], (13, 1, 4, 1, 7, 100))
        self.assertEqual(last(*told, minutes(1)), [0, 0, 4, 0, 5, 0, 0, 0, 0, 4])


class Loads(unittest.TestCase):
    def test_of_the_first_block_alone(self):
        told = fleet(4, 100, 0, [3], [2, 2], [4], [5, 9], [6, 6])
        found = lines(told, block(1, 7, 150, 1), block(1, 8, 130, 2), run(20))
        self.assertEqual([line[1:] for line in only(found, 3)],
                         [(1, 3, 1, 7, 100), (2, 3, 1, 7, 50), (3, 3, 1, 8, 100), (4, 3, 1, 8, 30)])
        self.assertEqual([line[1:] for line in only(found, 4)],
                         [(1, 4, 1, 7, 100), (2, 4, 1, 7, 50), (3, 4, 2, 8, 100), (4, 4, 2, 8, 30)])

    def test_rest_that_is_just_a_load(self):
        told = [fleet(n=2), block(1, 7, 200), block(1, 8, 1)]
        found = lines(*told, run(40))
        self.assertEqual([line[4:] for line in only(found, 3)], [(7, 100), (7, 100), (8, 1)])
        self.assertEqual(last(*told, run(8), shovel(1)), [0, 1, 0, 1, 8])

    def test_taken_when_the_loading_begins(self):
        told = [fleet(), block(1, 7, 100)]
        self.assertEqual(play(*told, run(4), shovel(1), run(1), shovel(1))[3:],
                         [[0, 1, 1, 100, 7], [0, 5, 0], [0, 0, 0, 0]])

    def test_block_that_is_gone_is_still_on_the_truck(self):
        told = [fleet(), block(1, 7, 100), run(10), truck(1)]
        self.assertEqual(last(*told), [0, 4, 1, 2, 7, 100])

    def test_one_kilogram_each(self):
        told = [fleet(n=8, carries=1), block(1, 7, 3), run(100)]
        self.assertEqual([line[4:] for line in only(lines(*told), 6)], [(7, 1)] * 3)
        self.assertEqual(len(only(lines(*told), 7)), 8)


class Counting(unittest.TestCase):
    def test_four_kinds_of_a_shovels_minutes(self):
        told = [fleet(), block(1, 7, 150), run(40)]
        self.assertEqual(counts_of_shovel(1, *told), [6, 0, 17, 17])

    def test_stopped_ahead_of_loading_and_of_nothing_left(self):
        told = [fleet(), block(1, 7, 100), stop_shovel(1, 5, 10), stop_shovel(1, 30, 5), run(40)]
        self.assertEqual(counts_of_shovel(1, *told), [3, 15, 4, 18])

    def test_loading_of_the_last_load_is_loading(self):
        self.assertEqual(counts_of_shovel(1, fleet(), block(1, 7, 100), run(7)), [3, 0, 4, 0])

    def test_loading_of_a_stopped_truck_is_loading(self):
        self.assertEqual(counts_of_shovel(1, fleet(), block(), stop_truck(1, 5, 10), run(17)), [13, 0, 4, 0])

    def test_waited_for_by_a_stopped_truck_is_without_a_truck(self):
        self.assertEqual(counts_of_shovel(1, fleet(), block(), stop_truck(1, 4, 5), run(9)), [0, 0, 9, 0])

    def test_nothing_left_from_the_beginning(self):
        self.assertEqual(counts_of_shovel(1, fleet(), run(9)), [0, 0, 0, 9])


if __name__ == "__main__":
    unittest.main()
