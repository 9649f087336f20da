"""The promises 1 to 4, over longer shifts, from what the calls show minute by minute."""

import unittest

from mineshift.calls import Mine, answer_call
from mineshift.forms import Reader, read_call
from tests.shifts import told_shift
from tests.tools import block, fleet, lines, minutes, place, play, run, shovel, truck

LONG = 200
CHUNK = 10


class Shift:
    """A shift's calls as they were let in, and how all stands when each minute begins."""

    def __init__(self, calls, long=LONG):
        self.calls = [call for call, answer in zip(calls, play(*calls)) if answer[0] == 0]
        told = self.calls[0]
        self.trucks = range(1, told[1] + 1)
        self.shovels = range(1, told[4] + 1)
        self.places = range(1, told[5 + told[4]] + 1)
        self.blocks = {call[2]: call for call in self.calls if call[0] == 1}
        self.stops = [call for call in self.calls if call[0] == 2]
        self.book = lines(*self.calls, run(long))
        self.moments = []
        while len(self.moments) <= long:
            self.look_on()

    def look_on(self):
        views = [truck(t) for t in self.trucks] + [shovel(s) for s in self.shovels]
        views += [place(p) for p in self.places] + [minutes(t) for t in self.trucks]
        before = self.calls + ([run(len(self.moments))] if self.moments else [])
        found = play(*before, *(views + [run(1)]) * CHUNK)[len(before):]
        for k in range(CHUNK):
            part = found[k * (len(views) + 1):(k + 1) * (len(views) + 1)]
            self.moments.append({(view[0], view[1]): answer[1:] for view, answer in zip(views, part)})

    def stopped(self, kind, which, minute):
        return any(call[1:3] == [kind, which] and call[3] <= minute < call[3] + call[4] for call in self.stops)

    def doing(self, minute, does, where):
        moment = self.moments[minute]
        return [t for t in self.trucks if moment[4, t][:2] == [does, where]]


SHIFTS = [Shift(told_shift(seed)) for seed in range(25)]


class Kilograms(unittest.TestCase):
    def test_every_kilogram_is_in_one_place(self):
        for shift in SHIFTS:
            told = sum(call[3] for call in shift.blocks.values())
            for moment in shift.moments:
                left = sum(moment[5, s][2] for s in shift.shovels)
                carried = sum(moment[4, t][4] for t in shift.trucks)
                tipped = sum(moment[6, p][1] for p in shift.places)
                self.assertEqual(left + carried + tipped, told)

    def test_each_block_goes_to_its_place_from_its_shovel(self):
        for shift in SHIFTS:
            loaded = {number: 0 for number in shift.blocks}
            for minute, t, does, where, number, kilograms in shift.book:
                if does == 3:
                    self.assertEqual(where, shift.blocks[number][1])
                    loaded[number] += kilograms
                if does in (4, 5, 6):
                    self.assertEqual(where, shift.blocks[number][4])
            left = [number for s in shift.shovels for number in shift.moments[LONG][5, s][3:]]
            for number, call in shift.blocks.items():
                self.assertLessEqual(loaded[number], call[3])
                self.assertEqual(loaded[number] < call[3], number in left)

    def test_all_is_tipped_in_the_end(self):
        told = [fleet(5, 100, 2, [3, 4], [2, 1], [4, 5], [5, 6, 7, 8], [6, 5, 4, 3])]
        told += [block(1, 1, 1234, 1), block(2, 2, 999, 2), block(1, 3, 1, 2), block(2, 4, 100, 1)]
        found = play(*told, run(1440), shovel(1), shovel(2), place(1), place(2))
        self.assertEqual(found[-4:], [[0, 0, 0, 0], [0, 0, 0, 0], [0, 14, 1334, 0], [0, 11, 1000, 0]])


class Minutes(unittest.TestCase):
    def test_each_minute_of_each_truck_is_counted_once(self):
        for shift in SHIFTS:
            for minute in range(LONG):
                for t in shift.trucks:
                    before, after = shift.moments[minute][8, t], shift.moments[minute + 1][8, t]
                    self.assertEqual(sum(before), minute)
                    grown = [does for does in range(9) if after[does] > before[does]]
                    self.assertEqual(len(grown), 1)
                    self.assertEqual(grown == [8], shift.stopped(0, t, minute))

    def test_each_minute_of_each_shovel_is_counted_once(self):
        for shift in SHIFTS:
            mine = Mine()
            for call in shift.calls:
                answer_call(mine, read_call(Reader(call)))
            for minute in range(1, LONG + 1):
                answer_call(mine, read_call(Reader(run(1))))
                for thing in mine.fleet.shovels:
                    self.assertEqual(sum(thing.counted), minute)
            for thing in mine.fleet.shovels:
                stopped = [minute for minute in range(LONG) if shift.stopped(1, thing.number, minute)]
                self.assertEqual(thing.counted[1], len(stopped))


class Rounds(unittest.TestCase):
    def test_each_truck_goes_its_rounds(self):
        follows = {0: (1, 7), 1: (2,), 2: (3,), 3: (4,), 4: (5,), 5: (6,), 6: (1, 7), 7: ()}
        for shift in SHIFTS:
            for t in shift.trucks:
                does, where, load, minute = 0, 0, (0, 0), 0
                for line in shift.book:
                    if line[1] != t:
                        continue
                    self.assertIn(line[2], follows[does])
                    self.assertGreaterEqual(line[0], minute)
                    if line[2] in (2, 3, 5, 6, 7):
                        self.assertEqual(line[3], where)
                    if line[2] in (4, 5, 6):
                        self.assertEqual(line[4:], load)
                    self.assertEqual(line[4:] == (0, 0), line[2] in (1, 2, 7))
                    minute, does, where, load = line[0], line[2], line[3], line[4:]

    def test_lines_are_of_no_falling_minute(self):
        for shift in SHIFTS:
            written = [line[0] for line in shift.book]
            self.assertEqual(written, sorted(written))

    def test_one_truck_at_a_time(self):
        for shift in SHIFTS:
            for minute in range(LONG + 1):
                for s in shift.shovels:
                    self.assertLessEqual(len(shift.doing(minute, 3, s)), 1)
                for p in shift.places:
                    self.assertLessEqual(len(shift.doing(minute, 6, p)), 1)

    def test_loadings_of_a_shovel_do_not_overlap(self):
        for shift in SHIFTS:
            loads = {}
            for minute, t, does, where, number, kilograms in shift.book:
                if does == 3:
                    self.assertNotIn(where, loads)
                    loads[where] = t
                if does == 4:
                    self.assertEqual(loads.pop(shift.blocks[number][1]), t)


class NothingStands(unittest.TestCase):
    def test_no_free_truck_stands(self):
        for shift in SHIFTS:
            sent = {(line[0], line[1]): line[2] for line in shift.book if line[2] in (1, 7)}
            for minute in range(LONG):
                for t in shift.trucks:
                    free = shift.moments[minute][4, t][0] == 0 and not shift.stopped(0, t, minute)
                    self.assertEqual(free, (minute, t) in sent)

    def test_no_truck_ends_while_loads_are_left_for_it(self):
        for shift in SHIFTS:
            for minute, t, does, where, number, kilograms in shift.book:
                if does == 7:
                    for s in shift.shovels:
                        left, coming = shift.moments[minute][5, s][:2]
                        sent = [line for line in shift.book if line[0] == minute and line[2:4] == (1, s) and line[1] < t]
                        self.assertEqual(left, coming + len(sent))

    def test_no_place_stands_while_one_waits_that_could_tip(self):
        for shift in SHIFTS:
            tips = {(line[0], line[3]): line[1] for line in shift.book if line[2] == 6}
            came = {}
            for minute in range(LONG):
                came.update({line[1]: line[0] for line in shift.book if line[0] == minute and line[2] == 5})
                for p in shift.places:
                    queue = [t for t in shift.doing(minute, 5, p) if not shift.stopped(0, t, minute)]
                    served = tips.get((minute, p))
                    if queue and not shift.doing(minute, 6, p):
                        self.assertEqual(served, min((came[t], t) for t in queue)[1])
                    else:
                        self.assertIsNone(served)

    def test_no_shovel_stands_while_one_waits_that_could_be_loaded(self):
        for shift in SHIFTS:
            loads = {(line[0], line[3]): line[1] for line in shift.book if line[2] == 3}
            came = {}
            for minute in range(LONG):
                came.update({line[1]: line[0] for line in shift.book if line[0] == minute and line[2] == 2})
                for s in shift.shovels:
                    queue = [t for t in shift.doing(minute, 2, s) if not shift.stopped(0, t, minute)]
                    served = loads.get((minute, s))
                    if queue and not shift.doing(minute, 3, s) and not shift.stopped(1, s, minute):
                        self.assertEqual(served, min((came[t], t) for t in queue)[1])
                    else:
                        self.assertIsNone(served)

    def test_shifts_are_of_many_kinds(self):
        seen = {line[2] for shift in SHIFTS for line in shift.book}
        self.assertEqual(seen, {1, 2, 3, 4, 5, 6, 7})
        self.assertEqual({shift.calls[0][3] for shift in SHIFTS}, {0, 1, 2})
        self.assertEqual({call[1] for shift in SHIFTS for call in shift.stops}, {0, 1})


if __name__ == "__main__":
    unittest.main()
