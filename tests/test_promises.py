"""The promises 1 to 4, over longer shifts, from what the calls show minute by minute."""

import unittest

from tests.shifts import late_shift, told_shift
from tests.tools import (
    balance, block, blocks, check, fleet, lines, minutes, next_shovel, now, place, play, run, shovel, truck, work)

MOST_CALLS = 400


class Shift:
    """A shift's calls as they were let in, by the minute before which they're told, and how all stands then."""

    def __init__(self, script, long):
        self.long = long
        self.script = script
        self.script = self.let_in()
        told = self.script[0][0]
        self.trucks = range(1, told[1] + 1)
        self.shovels = range(1, told[4] + 1)
        self.places = range(1, told[5 + told[4]] + 1)
        calls = [call for minute in sorted(self.script) for call in self.script[minute]]
        self.blocks = {call[2]: call for call in calls if call[0] == 1}
        self.told_at = [minute for minute, told in self.script.items() if any(call[0] == 1 for call in told)]
        self.stops = [call for call in calls if call[0] == 2]
        self.book = lines(*self.calls(long))
        self.moments = []
        while len(self.moments) <= long:
            self.look_on()

    def calls(self, until):
        """All calls up to when that minute begins, those told then among them."""
        found, at = [], 0
        for minute in sorted(minute for minute in self.script if minute <= until):
            found += ([run(minute - at)] if minute > at else []) + self.script[minute]
            at = minute
        return found + ([run(until - at)] if until > at else [])

    def let_in(self):
        calls = self.calls(self.long)
        kept, at = {}, 0
        for call, answer in zip(calls, play(*calls)):
            if call[0] == 3:
                at += call[1]
            elif answer[0] == 0:
                kept.setdefault(at, []).append(call)
        return kept

    def look_on(self):
        views = [truck(t) for t in self.trucks] + [shovel(s) for s in self.shovels]
        views += [place(p) for p in self.places] + [minutes(t) for t in self.trucks]
        views += [work(s) for s in self.shovels] + [next_shovel(p) for p in [0, *self.places]]
        views += [balance(), blocks(), now()]
        begin = len(self.moments)
        calls = self.calls(begin)
        shown = []
        for minute in range(begin, self.long + 1):
            more = ([run(1)] + self.script.get(minute, []) if minute > begin else []) + views
            if len(calls) + len(more) > MOST_CALLS:
                break
            shown.append(len(calls) + len(more) - len(views))
            calls += more
        found = play(*calls)
        for at in shown:
            self.moments.append({tuple(view): answer[1:] for view, answer in zip(views, found[at:])})

    def stopped(self, kind, which, minute):
        return any(call[1:3] == [kind, which] and call[3] <= minute < call[3] + call[4] for call in self.stops)

    def doing(self, minute, does, where):
        moment = self.moments[minute]
        return [t for t in self.trucks if moment[4, t][:2] == [does, where]]


SHIFTS = [Shift({0: told_shift(seed)}, 200) for seed in range(25)]
SHIFTS += [Shift(late_shift(seed, 300), 300) for seed in range(6)]
SHIFTS += [Shift(late_shift(seed, 700), 700) for seed in range(100, 102)]


class Kilograms(unittest.TestCase):
    def test_every_kilogram_is_in_one_place(self):
        for shift in SHIFTS:
            for minute, moment in enumerate(shift.moments):
                told = sum(call[3] for call in shift.calls(minute) if call[0] == 1)
                left = sum(moment[5, s][2] for s in shift.shovels)
                carried = sum(moment[4, t][4] for t in shift.trucks)
                tipped = sum(moment[6, p][1] for p in shift.places)
                self.assertEqual(left + carried + tipped, told)
                self.assertEqual(moment[10,], [told, left, carried, tipped])

    def test_every_kilogram_of_each_block_is_in_one_place(self):
        for shift in SHIFTS:
            for moment in shift.moments:
                rows = [moment[11,][k:k + 4] for k in range(0, len(moment[11,]), 4)]
                before = [number for s in shift.shovels for number in moment[5, s][3:]]
                for number, told, tipped, where in rows:
                    self.assertEqual([told, where], shift.blocks[number][3:])
                    carried = sum(moment[4, t][4] for t in shift.trucks if moment[4, t][3] == number)
                    self.assertEqual(tipped + carried < told, number in before)
                    self.assertLessEqual(tipped + carried, told)
                for p in shift.places:
                    self.assertEqual(moment[6, p][1], sum(row[2] for row in rows if row[3] == p))
                for s in shift.shovels:
                    own = {row[0]: row[1] - row[2] for row in rows if shift.blocks[row[0]][1] == s}
                    carried = sum(moment[4, t][4] for t in shift.trucks if moment[4, t][3] in own)
                    self.assertEqual(moment[5, s][2], sum(own.values()) - carried)

    def test_each_block_goes_to_its_place_from_its_shovel(self):
        for shift in SHIFTS:
            loaded = {number: 0 for number in shift.blocks}
            for minute, t, does, where, number, kilograms in shift.book:
                if does == 3:
                    self.assertEqual(where, shift.blocks[number][1])
                    loaded[number] += kilograms
                if does in (4, 5, 6):
                    self.assertEqual(where, shift.blocks[number][4])
            left = [number for s in shift.shovels for number in shift.moments[shift.long][5, s][3:]]
            for number, call in shift.blocks.items():
                self.assertLessEqual(loaded[number], call[3])
                self.assertEqual(loaded[number] < call[3], number in left)

    def test_all_is_tipped_in_the_end(self):
        told = [fleet(5, 100, 2, [3, 4], [2, 1], [4, 5], [5, 6, 7, 8], [6, 5, 4, 3])]
        told += [block(1, 1, 1234, 1), block(2, 2, 999, 2), block(1, 3, 1, 2), block(2, 4, 100, 1)]
        found = play(*told, run(1440), shovel(1), shovel(2), place(1), place(2))
        self.assertEqual(found[-4:], [[0, 0, 0, 0], [0, 0, 0, 0], [0, 14, 1334, 0], [0, 11, 1000, 0]])


class Minutes(unittest.TestCase):
    def test_each_minute_of_each_truck_is_counted_once(self):
        for shift in SHIFTS:
            for minute in range(shift.long):
                for t in shift.trucks:
                    before, after = shift.moments[minute][8, t], shift.moments[minute + 1][8, t]
                    self.assertEqual(sum(before), minute)
                    grown = [does for does in range(9) if after[does] > before[does]]
                    self.assertEqual(len(grown), 1)
                    self.assertEqual(grown == [8], shift.stopped(0, t, minute))

    def test_each_minute_of_each_shovel_is_counted_once(self):
        for shift in SHIFTS:
            for minute in range(shift.long):
                for s in shift.shovels:
                    before, after = shift.moments[minute][9, s], shift.moments[minute + 1][9, s]
                    self.assertEqual(sum(before), minute)
                    grown = [kind for kind in range(4) if after[kind] > before[kind]]
                    self.assertEqual(len(grown), 1)
                    self.assertEqual(grown == [1], shift.stopped(1, s, minute))

    def test_each_minute_of_each_shovel_is_of_the_right_kind(self):
        for shift in SHIFTS:
            loads = {(line[0], line[3]) for line in shift.book if line[2] == 3}
            for minute in range(shift.long):
                for s in shift.shovels:
                    before, after = shift.moments[minute][9, s], shift.moments[minute + 1][9, s]
                    busy = bool(shift.doing(minute, 3, s)) or (minute, s) in loads
                    # A block told when the next minute begins would hide that nothing was left in this one.
                    if not shift.stopped(1, s, minute) and minute + 1 not in shift.told_at:
                        bare = not busy and shift.moments[minute + 1][5, s][2] == 0
                        kind = 0 if busy else 3 if bare else 2
                        self.assertEqual(after[kind], before[kind] + 1)

    def test_minutes_without_a_truck_are_added_up(self):
        for shift in SHIFTS:
            for minute, moment in enumerate(shift.moments):
                self.assertEqual(moment[17,][0], minute)
                self.assertEqual(moment[17,][7], sum(moment[9, s][2] for s in shift.shovels))


class Rounds(unittest.TestCase):
    def test_each_truck_goes_its_rounds(self):
        follows = {0: (1, 7), 1: (2,), 2: (3,), 3: (4,), 4: (5,), 5: (6,), 6: (1, 7), 7: (1, 7)}
        for shift in SHIFTS:
            for t in shift.trucks:
                does, where, load, minute = 0, 0, (0, 0), 0
                for line in shift.book:
                    if line[1] != t:
                        continue
                    self.assertIn(line[2], follows[does])
                    self.assertGreaterEqual(line[0], minute)
                    if does == 7:
                        self.assertTrue([told for told in shift.told_at if minute < told <= line[0]])
                    if line[2] in (2, 3, 5, 6, 7):
                        self.assertEqual(line[3], where)
                    if line[2] in (4, 5, 6):
                        self.assertEqual(line[4:], load)
                    self.assertEqual(line[4:] == (0, 0), line[2] in (1, 2, 7))
                    minute, does, where, load = line[0], line[2], line[3], line[4:]

    def test_lines_are_of_no_falling_minute(self):
        for shift in SHIFTS:
            written = [line[0] for line in shift.book]
            self.assertEqual(written, sorted(written))

    def test_one_truck_at_a_time(self):
        for shift in SHIFTS:
            for minute in range(shift.long + 1):
                for s in shift.shovels:
                    self.assertLessEqual(len(shift.doing(minute, 3, s)), 1)
                for p in shift.places:
                    self.assertLessEqual(len(shift.doing(minute, 6, p)), 1)

    def test_the_book_grows_by_what_happens(self):
        for shift in SHIFTS:
            for minute, moment in enumerate(shift.moments):
                # Lines of a minute's last step bear the next minute, as those of that minute's first steps do.
                least = len([line for line in shift.book if line[0] < minute])
                most = len([line for line in shift.book if line[0] <= minute])
                self.assertLessEqual(least, moment[17,][5])
                self.assertLessEqual(moment[17,][5], most)
                self.assertEqual(moment[17,][6], sum(moment[6, p][0] for p in shift.places))

    def test_the_book_is_what_check_knows(self):
        for shift in SHIFTS:
            numbers = [number for line in shift.book[:100] for number in line]
            self.assertEqual(play(*shift.calls(shift.long), check(numbers))[-1], [0, 1])

    def test_loadings_of_a_shovel_do_not_overlap(self):
        for shift in SHIFTS:
            loads = {}
            for minute, t, does, where, number, kilograms in shift.book:
                if does == 3:
                    self.assertNotIn(where, loads)
                    loads[where] = t
                if does == 4:
                    self.assertEqual(loads.pop(shift.blocks[number][1]), t)


class NothingStands(unittest.TestCase):
    def test_no_free_truck_stands(self):
        for shift in SHIFTS:
            sent = {(line[0], line[1]): line[2] for line in shift.book if line[2] in (1, 7)}
            for minute in range(shift.long):
                for t in shift.trucks:
                    free = shift.moments[minute][4, t][0] == 0 and not shift.stopped(0, t, minute)
                    self.assertEqual(free, (minute, t) in sent)

    def test_first_free_truck_is_sent_where_next_tells(self):
        for shift in SHIFTS:
            sent = {(line[0], line[1]): line for line in shift.book if line[2] in (1, 7)}
            for minute in range(shift.long):
                moment = shift.moments[minute]
                free = [t for t in shift.trucks if moment[4, t][0] == 0 and not shift.stopped(0, t, minute)]
                if free:
                    where = moment[4, free[0]][1]
                    chosen = moment[12, where][0]
                    self.assertEqual(sent[minute, free[0]][2:4], (1, chosen) if chosen else (7, where))

    def test_no_truck_ends_while_loads_are_left_for_it(self):
        for shift in SHIFTS:
            for minute, t, does, where, number, kilograms in shift.book:
                if does == 7:
                    for s in shift.shovels:
                        left, coming = shift.moments[minute][5, s][:2]
                        sent = [line for line in shift.book if line[0] == minute and line[2:4] == (1, s) and line[1] < t]
                        self.assertEqual(left, coming + len(sent))

    def test_no_place_stands_while_one_waits_that_could_tip(self):
        for shift in SHIFTS:
            tips = {(line[0], line[3]): line[1] for line in shift.book if line[2] == 6}
            came = {}
            for minute in range(shift.long):
                came.update({line[1]: line[0] for line in shift.book if line[0] == minute and line[2] == 5})
                for p in shift.places:
                    queue = [t for t in shift.doing(minute, 5, p) if not shift.stopped(0, t, minute)]
                    served = tips.get((minute, p))
                    if queue and not shift.doing(minute, 6, p):
                        self.assertEqual(served, min((came[t], t) for t in queue)[1])
                    else:
                        self.assertIsNone(served)

    def test_no_shovel_stands_while_one_waits_that_could_be_loaded(self):
        for shift in SHIFTS:
            loads = {(line[0], line[3]): line[1] for line in shift.book if line[2] == 3}
            came = {}
            for minute in range(shift.long):
                came.update({line[1]: line[0] for line in shift.book if line[0] == minute and line[2] == 2})
                for s in shift.shovels:
                    queue = [t for t in shift.doing(minute, 2, s) if not shift.stopped(0, t, minute)]
                    served = loads.get((minute, s))
                    ready = shift.moments[minute][5, s][0] > 0 and not shift.stopped(1, s, minute)
                    if queue and ready and not shift.doing(minute, 3, s):
                        self.assertEqual(served, min((came[t], t) for t in queue)[1])
                    else:
                        self.assertIsNone(served)

    def test_shifts_are_of_many_kinds(self):
        seen = {line[2] for shift in SHIFTS for line in shift.book}
        self.assertEqual(seen, {1, 2, 3, 4, 5, 6, 7})
        self.assertEqual({shift.script[0][0][3] for shift in SHIFTS}, {0, 1, 2})
        self.assertEqual({call[1] for shift in SHIFTS for call in shift.stops}, {0, 1})
        freed = [shift for shift in SHIFTS if any(minute > 0 for minute in shift.told_at)]
        self.assertGreater(len(freed), 5)


if __name__ == "__main__":
    unittest.main()
