"""What the calls other, fewest and ahead answer when they're done, and that nothing changes by them."""

import unittest

from tests.shifts import told_shift
from tests.tools import (
    ahead, block, check, fewest, fleet, last, lines, look, now, other, place, play, run, stop_shovel, stop_truck, work)


def with_rule(call, rule, n):
    return [0, n, call[2], rule] + call[4:]


def sums(*told):
    """Loads, kilograms and minutes of shovels without a truck, from what now and place tell."""
    shown = last(*told, now())
    return [0, shown[7], sum(last(*told, place(p + 1))[2] for p in range(shown[4])), shown[8]]


def told_anew(told, rule, n):
    """The same calls to a fleet with this rule and so many trucks, without the stops of trucks that it hasn't."""
    kept = [call for call in told[1:] if not (call[:2] == [2, 0] and call[2] > n)]
    return [with_rule(told[0], rule, n)] + kept


def let_in(calls):
    return [call for call, answer in zip(calls, play(*calls)) if answer[0] == 0]


def near_and_far(rule, n):
    """A shovel near the park and the place, and one that is far, neither ever out of blocks."""
    call = fleet(n, 100, rule, [8, 8], [2], [3, 12], [5, 5], [3, 12])
    return [call, block(1, 1, 9000), block(2, 2, 9000), run(200)]


# Two shovels, two places; blocks that are told late, some after all trucks have ended; stops of both kinds.
LONG = [
    fleet(3, 100, 1, [3, 5], [2, 4], [4, 6], [5, 7, 9, 6], [6, 8, 5, 7]), block(1, 1, 900, 1), block(2, 2, 650, 2),
    stop_truck(1, 10, 15), stop_truck(3, 30, 25), stop_shovel(2, 20, 18), run(40), block(1, 3, 430, 2), run(23),
    stop_truck(2, 70, 12), stop_shovel(1, 66, 9), run(150), block(2, 4, 380, 1), run(7), block(2, 5, 1210, 1), run(35)]


class OtherCall(unittest.TestCase):
    def test_one_truck_or_two(self):
        told = [fleet(), block(1, 7, 1000), run(30)]
        self.assertEqual(last(*told, other(0, 1)), [0, 2, 200, 24])
        self.assertEqual(last(*told, other(0, 2)), [0, 3, 300, 18])
        self.assertEqual(last(*told, place(1)), [0, 2, 200, 0])

    def test_no_minute_has_gone_by(self):
        self.assertEqual(last(fleet(), other(2, 8)), [0, 0, 0, 0])
        self.assertEqual(last(fleet(), block(), other(2, 8)), [0, 0, 0, 0])

    def test_last_load_is_not_a_whole_one(self):
        told = [fleet(n=3), block(1, 7, 250), run(60)]
        self.assertEqual([last(*told, other(0, n)) for n in (1, 2, 3)],
                         [[0, 3, 250, 30], [0, 3, 250, 14], [0, 3, 250, 4]])

    def test_each_rule(self):
        # The far shovel is left alone by rule 1, is shared out by rule 0, is weighed by rule 2.
        told = near_and_far(0, 3)
        found = [last(*told, other(rule, 3)) for rule in (0, 1, 2)]
        self.assertEqual(len(set(map(tuple, found))), 3)
        self.assertEqual(found, [sums(*told_anew(told, rule, 3)) for rule in (0, 1, 2)])

    def test_own_rule_and_number_of_trucks(self):
        self.assertEqual(last(*LONG, other(1, 3)), sums(*LONG))
        for seed in range(15):
            told = let_in(told_shift(seed)) + [run(130)]
            self.assertEqual(last(*told, other(told[0][3], told[0][1])), sums(*told))

    def test_each_rule_and_number_of_trucks(self):
        seen = {}
        for rule in (0, 1, 2):
            for n in range(1, 9):
                answer = last(*LONG, other(rule, n))
                self.assertEqual(answer, sums(*told_anew(LONG, rule, n)), (rule, n))
                seen[tuple(answer)] = True
        self.assertGreater(len(seen), 12)

    def test_at_many_moments(self):
        for many in range(1, len(LONG) + 1):
            for rule, n in ((0, 1), (2, 3), (1, 8)):
                self.assertEqual(last(*LONG[:many], other(rule, n)), sums(*told_anew(LONG[:many], rule, n)))

    def test_stops_of_trucks_that_it_has_not_are_left_out(self):
        bare = [fleet(n=3), block(1, 7, 900)]
        told = bare + [stop_truck(3, 0, 100), stop_truck(2, 0, 50), run(60)]
        self.assertEqual(last(*told, other(0, 1)), sums(fleet(n=1), block(1, 7, 900), run(60)))
        self.assertEqual(last(*told, other(0, 2)), sums(fleet(n=2), block(1, 7, 900), stop_truck(2, 0, 50), run(60)))
        self.assertEqual(last(*told, other(0, 3)), sums(*told))

    def test_stops_of_shovels_are_not_left_out(self):
        call = fleet(3, 100, 0, [3] * 3, [2], [4] * 3, [5] * 3, [6] * 3)
        told = [call, block(3, 7, 900), stop_shovel(3, 0, 40), run(60)]
        self.assertEqual(last(*told, other(0, 1)), [0, 1, 100, 14])
        self.assertEqual(last(*told, other(0, 1)), sums(*told_anew(told, 0, 1)))
        free = [call, block(3, 7, 900), run(60)]
        self.assertNotEqual(last(*told, other(0, 1)), last(*free, other(0, 1)))

    def test_further_trucks_are_not_stopped(self):
        told = [fleet(n=1), block(1, 7, 900), stop_truck(1, 0, 60), run(60)]
        self.assertEqual(sums(*told), [0, 0, 0, 60])
        self.assertEqual(last(*told, other(0, 2)), [0, 3, 300, 48])

    def test_refused_calls_are_not_told_anew(self):
        told = [fleet(n=2), block(1, 7, 900), run(20)]
        refused = [stop_truck(3, 20, 500), stop_truck(1, 5, 90), block(1, 7, 100), block(2, 8, 100), run(1421), run(0)]
        more = [run(40)]
        self.assertEqual(last(*told, *refused, *more, other(0, 4)), last(*told, *more, other(0, 4)))
        self.assertEqual(last(*told, *refused, *more, fewest(20)), last(*told, *more, fewest(20)))
        self.assertEqual(last(*told, *refused, *more, ahead(33)), last(*told, *more, ahead(33)))

    def test_refused_as_the_twenty_first_stays_refused(self):
        told = [fleet(n=2), block(1, 7, 900)] + [stop_truck(2, 0, 1)] * 20
        refused = stop_truck(1, 0, 300)
        self.assertEqual(last(*told, refused), [-4])
        self.assertEqual(last(*told, refused, run(60), other(0, 1)), last(*told, run(60), other(0, 1)))

    def test_block_told_late_frees_trucks_that_have_ended(self):
        told = [fleet(n=1), block(1, 7, 100), run(100), block(1, 8, 300), run(20)]
        self.assertEqual(last(*told, other(0, 1)), [0, 2, 200, 21])
        # All four have ended by then, three of them in the park, which is nearer to the shovel.
        self.assertEqual(last(*told, other(0, 4)), sums(fleet(n=4), *told[1:]))
        self.assertEqual(last(*told, other(0, 4)), [0, 4, 400, 8])

    def test_block_told_late_is_told_as_late_anew(self):
        early = [fleet(), block(1, 7, 100), block(1, 8, 300), run(120)]
        late = [fleet(), block(1, 7, 100), run(100), block(1, 8, 300), run(20)]
        self.assertNotEqual(last(*early, other(0, 2)), last(*late, other(0, 2)))

    def test_only_since_the_fleet(self):
        told = [fleet(n=2), block(1, 7, 900), run(60)]
        self.assertEqual(last(*LONG, *told, other(1, 3)), last(*told, other(1, 3)))
        self.assertEqual(last(*LONG, fleet(), other(1, 3)), [0, 0, 0, 0])

    def test_refused_fleet_is_not_the_one(self):
        self.assertEqual(last(*LONG, fleet(n=9), other(1, 3)), sums(*LONG))
        self.assertEqual(last(*LONG, fleet(park=(4, 4)), other(1, 3)), sums(*LONG))

    def test_other_of_other_is_of_the_fleet(self):
        found = play(*LONG, other(0, 1), other(2, 8), other(0, 1), fewest(10), other(2, 8))[len(LONG):]
        self.assertEqual(found[0], found[2])
        self.assertEqual(found[1], found[4])


# Two shovels that are never out of blocks: with more trucks they stand less.
BUSY = [fleet(2, 100, 0, [5, 5], [2], [4, 4], [9, 9], [9, 9]), block(1, 1, 90000), block(2, 2, 90000), run(300)]


class FewestCall(unittest.TestCase):
    def without(self, told, n, rule=0):
        return last(*told, other(rule, n))[3]

    def test_no_minute_has_gone_by(self):
        self.assertEqual(last(fleet(n=5), fewest(0)), [0, 1, 0])

    def test_edges_of_each_number(self):
        counts = [self.without(BUSY, n) for n in range(1, 9)]
        self.assertEqual(counts, sorted(counts, reverse=True))
        self.assertEqual(len(set(counts)), 8)
        for n in range(1, 9):
            self.assertEqual(last(*BUSY, fewest(counts[n - 1])), [0, n, counts[n - 1]])
            if n < 8:
                self.assertEqual(last(*BUSY, fewest(counts[n - 1] - 1)), [0, n + 1, counts[n]])
        self.assertEqual(last(*BUSY, fewest(counts[7] - 1)), [0, 0])

    def test_more_than_the_fleet_has(self):
        self.assertEqual(last(*BUSY, now())[2], 2)
        self.assertEqual(last(*BUSY, fewest(self.without(BUSY, 5)))[1], 5)

    def test_none_will_do(self):
        self.assertEqual(last(*BUSY, fewest(0)), [0, 0])
        # From the park to the shovel it takes four minutes, with however many trucks.
        told = [fleet(n=2), block(1, 7, 100), run(30)]
        self.assertEqual(last(*told, fewest(3)), [0, 0])
        self.assertEqual(last(*told, fewest(4)), [0, 1, 4])

    def test_any_will_do(self):
        self.assertEqual(last(*BUSY, fewest(10000)), [0, 1, self.without(BUSY, 1)])

    def test_least_that_will_do_though_a_greater_one_would_not(self):
        found = False
        for seed in range(60):
            told = let_in(told_shift(seed)) + [run(150)]
            counts = [self.without(told, n, told[0][3]) for n in range(1, 9)]
            for n in range(1, 8):
                if counts[n] > counts[n - 1] and min(counts[:n]) == counts[n - 1]:
                    least = counts.index(counts[n - 1]) + 1
                    self.assertEqual(last(*told, fewest(counts[n - 1])), [0, least, counts[n - 1]])
                    found = True
        self.assertTrue(found)

    def test_own_rule_is_taken(self):
        answers = []
        for rule in (0, 1, 2):
            told = near_and_far(rule, 2)
            counts = [self.without(told, n, rule) for n in range(1, 9)]
            will_do = [n for n in range(1, 9) if counts[n - 1] <= 100]
            answers.append(last(*told, fewest(100)))
            self.assertEqual(answers[-1], [0, will_do[0], counts[will_do[0] - 1]] if will_do else [0, 0])
        self.assertEqual(answers, [[0, 5, 75], [0, 0], [0, 6, 75]])

    def test_all_shovels_together(self):
        told = BUSY[:3] + [run(30)]
        parts = [last(with_rule(told[0], 0, 1), *told[1:], work(s))[3] for s in (1, 2)]
        self.assertEqual(last(*told, fewest(sum(parts))), [0, 1, sum(parts)])
        self.assertGreater(last(*told, fewest(sum(parts) - 1))[1], 1)

    def test_stops_of_trucks_are_left_out_or_held(self):
        told = BUSY[:3] + [stop_truck(2, 0, 200), stop_truck(1, 0, 100), run(300)]
        for n in range(1, 9):
            count = sums(*told_anew(told, 0, n))[3]
            self.assertEqual(last(*told, other(0, n))[3], count)
            if all(self.without(told, fewer) > count for fewer in range(1, n)):
                self.assertEqual(last(*told, fewest(count)), [0, n, count])

    def test_blocks_told_late(self):
        for most in range(0, 400, 23):
            counts = [sums(*told_anew(LONG, 1, n))[3] for n in range(1, 9)]
            will_do = [n for n in range(1, 9) if counts[n - 1] <= most]
            self.assertEqual(last(*LONG, fewest(most)), [0, will_do[0], counts[will_do[0] - 1]] if will_do else [0, 0])


class AheadCall(unittest.TestCase):
    def test_one_truck(self):
        told = [fleet(), block(1, 7, 150)]
        for n, answer in ((1, [0, 0, 1]), (13, [0, 0, 10]), (14, [1, 100, 11]), (29, [1, 100, 17]), (30, [2, 150, 17]),
                          (1440, [2, 150, 17])):
            self.assertEqual(last(*told, ahead(n)), [0] + answer)

    def test_from_the_midst_of_each_minute(self):
        told = [fleet(), block(1, 7, 150)]
        for gone in range(1, 35):
            for n in (1, 2, 9, 30):
                self.assertEqual(last(*told, run(gone), ahead(n)), sums(*told, run(gone + n)))

    def test_as_run_would_give(self):
        for many in range(1, len(LONG) + 1):
            for n in (1, 7, 60, 400):
                self.assertEqual(last(*LONG[:many], ahead(n)), sums(*LONG[:many], run(n)), (many, n))

    def test_stops_that_begin_later(self):
        told = [fleet(n=2), block(1, 7, 900), stop_truck(1, 25, 40), stop_shovel(1, 70, 30), run(10)]
        bare = [fleet(n=2), block(1, 7, 900), run(10)]
        for n in (10, 20, 70, 120):
            self.assertEqual(last(*told, ahead(n)), sums(*told, run(n)))
        self.assertEqual(last(*told, ahead(15)), last(*bare, ahead(15)))
        self.assertNotEqual(last(*told, ahead(70)), last(*bare, ahead(70)))

    def test_blocks_that_are_told_now(self):
        told = [fleet(), block(1, 7, 100), run(100)]
        self.assertEqual(last(*told, ahead(20)), [0, 1, 100, 4])
        self.assertEqual(last(*told, block(1, 8, 300), ahead(20)), [0, 2, 200, 21])

    def test_up_to_1440(self):
        self.assertEqual(last(fleet(), ahead(1440)), [0, 0, 0, 0])
        self.assertEqual(play(fleet(), run(1), ahead(1440), ahead(1439))[2:], [[-6], [0, 0, 0, 0]])
        self.assertEqual(play(fleet(), run(1440), ahead(1))[2:], [[-6]])
        self.assertEqual(last(fleet(), run(1000), ahead(441)), [-6])
        self.assertEqual(last(fleet(), run(1000), ahead(440)), [0, 0, 0, 0])

    def test_every_shift(self):
        for seed in range(15):
            told = let_in(told_shift(seed)) + [run(50)]
            self.assertEqual(last(*told, ahead(77)), sums(*told, run(77)))


class NothingChanges(unittest.TestCase):
    def test_by_none_of_them(self):
        views = look(3, 2, 2)
        for many in range(1, len(LONG) + 1):
            for call in (other(1, 3), other(0, 1), other(2, 8), fewest(0), fewest(100), ahead(1), ahead(200)):
                told = LONG[:many]
                found = play(*told, *views, call, *views)
                self.assertEqual(found[-len(views):], found[many:many + len(views)])

    def test_the_shift_goes_on_as_it_would_have(self):
        asked = []
        for call in LONG:
            asked += [call, other(2, 8)] if call[0] == 1 else [call]
        asked += [fewest(50), ahead(90)]
        self.assertEqual(lines(*asked, run(100)), lines(*LONG, run(100)))
        self.assertEqual(last(*asked, run(100), now()), last(*LONG, run(100), now()))
        self.assertEqual(last(*asked, run(100), other(0, 5)), last(*LONG, run(100), other(0, 5)))

    def test_ahead_twice_gives_the_same(self):
        found = play(*LONG, ahead(50), ahead(50), run(1), ahead(49), run(49), now())[len(LONG):]
        self.assertEqual(found[0], found[1])
        self.assertEqual(found[0], found[3])
        self.assertEqual([found[0][1], found[0][3]], found[5][7:])


class PlayedAgain(unittest.TestCase):
    def test_told_again_the_shift_is_the_same(self):
        shifts = [LONG] + [told_shift(seed) + [run(41)] + told_shift(seed + 100)[1:] + [run(90)] for seed in range(15)]
        for told in shifts:
            views = look(told[0][1], told[0][4], told[0][5 + told[0][4]])
            kept = [call for call in let_in(told) if call[0] in (0, 1, 2, 3)]
            whole = lines(*told)
            self.assertEqual(lines(*kept), whole)
            self.assertEqual(lines(*told, *kept), whole)
            shown = play(*told, *views)[len(told):]
            self.assertEqual(play(*kept, *views)[len(kept):], shown)
            self.assertEqual(play(*told, *kept, *views)[len(told) + len(kept):], shown)

    def test_the_book_is_checked_against_the_shift_played_again(self):
        numbers = [number for line in lines(*LONG)[:100] for number in line]
        self.assertEqual(last(*LONG, *LONG, check(numbers)), [0, 1])
        self.assertEqual(last(*told_anew(LONG, 0, 3), check(numbers))[:2], [0, 0])

    def test_minute_by_minute_as_in_one_run(self):
        single = []
        for call in LONG:
            single += [run(1)] * call[1] if call[0] == 3 else [call]
        self.assertEqual(lines(*single), lines(*LONG))
        for call in (other(1, 3), other(0, 5), fewest(100), ahead(64)):
            self.assertEqual(last(*single, call), last(*LONG, call))


if __name__ == "__main__":
    unittest.main()
