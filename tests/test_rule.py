"""The three rules, each of their tie-breaks, and trucks that end."""

import unittest

from tests.tools import block, fleet, last, lines, run, shovel, stop_shovel, stop_truck, truck


def sent(*told):
    """Truck and shovel of each truck that was sent, in the book's order."""
    return [(line[1], line[3]) for line in lines(*told) if line[2] == 1]


def two_shovels(rule, park, loading=(3, 3), n=4):
    return fleet(n, 100, rule, loading, [2], park, [5, 5], [6, 6])


MUCH = [block(1, 1, 5000), block(2, 2, 5000)]


class RuleNought(unittest.TestCase):
    def test_fewest_with_it_then_minutes(self):
        self.assertEqual(sent(two_shovels(0, (9, 2)), *MUCH, run(1)), [(1, 2), (2, 1), (3, 2), (4, 1)])
        self.assertEqual(sent(two_shovels(0, (2, 9)), *MUCH, run(1)), [(1, 1), (2, 2), (3, 1), (4, 2)])

    def test_then_number(self):
        self.assertEqual(sent(two_shovels(0, (9, 9)), *MUCH, run(1)), [(1, 1), (2, 2), (3, 1), (4, 2)])

    def test_three_shovels(self):
        told = fleet(7, 100, 0, [3] * 3, [2], [9, 5, 7], [5] * 3, [6] * 3)
        self.assertEqual(sent(told, *MUCH, block(3, 3, 5000), run(1)),
                         [(1, 2), (2, 3), (3, 1), (4, 2), (5, 3), (6, 1), (7, 2)])

    def test_loaded_trucks_are_with_the_shovel(self):
        told = two_shovels(0, (2, 2), (10, 10), n=2)
        self.assertEqual(sent(told, *MUCH, stop_truck(2, 0, 5), run(6)), [(1, 1), (2, 2)])

    def test_waiting_trucks_are_with_the_shovel(self):
        told = two_shovels(0, (2, 2), (10, 10), n=2)
        self.assertEqual(sent(told, *MUCH, stop_truck(2, 0, 5), stop_shovel(1, 0, 50), run(6)), [(1, 1), (2, 2)])

    def test_trucks_that_left_are_not(self):
        told = two_shovels(0, (2, 2), (3, 3), n=2)
        self.assertEqual(sent(told, *MUCH, stop_truck(2, 0, 5), run(6)), [(1, 1), (2, 1)])


class RuleOne(unittest.TestCase):
    def test_fewest_minutes(self):
        self.assertEqual(sent(two_shovels(1, (9, 2)), *MUCH, run(1)), [(1, 2), (2, 2), (3, 2), (4, 2)])
        self.assertEqual(sent(two_shovels(1, (2, 9)), *MUCH, run(1)), [(1, 1), (2, 1), (3, 1), (4, 1)])

    def test_then_fewest_with_it_then_number(self):
        self.assertEqual(sent(two_shovels(1, (9, 9)), *MUCH, run(1)), [(1, 1), (2, 2), (3, 1), (4, 2)])

    def test_as_long_as_more_loads_are_left_than_trucks_come(self):
        told = [two_shovels(1, (9, 2)), block(1, 1, 5000), block(2, 2, 150), run(1)]
        self.assertEqual(sent(*told), [(1, 2), (2, 2), (3, 1), (4, 1)])


class RuleTwo(unittest.TestCase):
    def test_minutes_and_loading_of_those_with_it(self):
        self.assertEqual(sent(two_shovels(2, (4, 9)), *MUCH, run(1)), [(1, 1), (2, 1), (3, 2), (4, 1)])

    def test_loading_time_of_the_very_shovel(self):
        self.assertEqual(sent(two_shovels(2, (4, 5), (10, 2)), *MUCH, run(1)), [(1, 1), (2, 2), (3, 2), (4, 2)])
        self.assertEqual(sent(two_shovels(2, (5, 4), (2, 10)), *MUCH, run(1)), [(1, 2), (2, 1), (3, 1), (4, 1)])

    def test_then_fewest_with_it(self):
        self.assertEqual(sent(two_shovels(2, (4, 10)), *MUCH, run(1)), [(1, 1), (2, 1), (3, 2), (4, 1)])

    def test_then_number(self):
        self.assertEqual(sent(two_shovels(2, (4, 4)), *MUCH, run(1)), [(1, 1), (2, 2), (3, 1), (4, 2)])

    def test_minutes_from_the_place_where_it_is(self):
        for rule in (0, 1, 2):
            told = fleet(1, 100, rule, [3, 3], [2, 2], [4, 50], [5] * 4, [20, 30, 30, 20])
            self.assertEqual(sent(told, block(1, 1, 5000, 1), block(2, 2, 5000, 1), run(15)), [(1, 1), (1, 1)])
            self.assertEqual(sent(told, block(1, 1, 5000, 2), block(2, 2, 5000, 1), run(15)), [(1, 1), (1, 2)])


class WhoIsSent(unittest.TestCase):
    def test_no_more_than_loads_left(self):
        for rule in (0, 1, 2):
            told = [fleet(n=5, rule=rule), block(1, 7, 101), block(1, 8, 100), run(1)]
            self.assertEqual(lines(*told), [(0, 1, 1, 1, 0, 0), (0, 2, 1, 1, 0, 0), (0, 3, 1, 1, 0, 0),
                                            (0, 4, 7, 0, 0, 0), (0, 5, 7, 0, 0, 0)])

    def test_loaded_trucks_are_not_coming(self):
        told = [fleet(n=2, loading=(20,)), block(1, 7, 200), stop_truck(2, 0, 10), run(11)]
        self.assertEqual(sent(*told), [(1, 1), (2, 1)])
        self.assertEqual(last(*told, shovel(1)), [0, 1, 1, 100, 7])

    def test_waiting_trucks_are_coming(self):
        told = [fleet(n=2), block(1, 7, 100), stop_shovel(1, 0, 50), stop_truck(2, 0, 10), run(11), truck(2)]
        self.assertEqual(last(*told), [0, 7, 0, 0, 0, 0])

    def test_stopped_shovel_is_chosen_as_others_are(self):
        self.assertEqual(sent(two_shovels(0, (2, 9)), *MUCH, stop_shovel(1, 0, 1440), run(1)),
                         [(1, 1), (2, 2), (3, 1), (4, 2)])

    def test_shovel_without_blocks_is_not_chosen(self):
        for rule in (0, 1, 2):
            self.assertEqual(sent(two_shovels(rule, (2, 9)), block(2, 2, 5000), run(1)),
                             [(1, 2), (2, 2), (3, 2), (4, 2)])

    def test_trucks_end_where_they_are(self):
        told = fleet(2, 100, 0, [3], [2, 2, 2], [4], [5, 5, 5], [6, 6, 6])
        found = lines(told, block(1, 7, 100, 3), run(50))
        self.assertEqual([line for line in found if line[2] == 7], [(0, 2, 7, 0, 0, 0), (14, 1, 7, 3, 0, 0)])

    def test_ended_truck_stays_ended_until_a_block_is_told(self):
        told = [fleet(n=2), block(1, 7, 100), run(30)]
        self.assertEqual(len(lines(*told)), len(lines(*told, run(500))))
        found = lines(*told, block(1, 8, 100), run(1))[len(lines(*told)):]
        self.assertEqual(found, [(30, 1, 1, 1, 0, 0), (30, 2, 7, 0, 0, 0)])


if __name__ == "__main__":
    unittest.main()
