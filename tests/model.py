"""The shift once more, written apart from the program from the document's words alone, to compare with.

It keeps whole histories where the program keeps counts, and finds each thing anew when it's asked for. A shift is
played again from its blocks, with the minutes in which they were told, and from its stops, all told ahead.
"""

import copy

RANGES = [
    [(1, 8), (1, 10 ** 6), (0, 2)],
    [(1, 3), (1, 10 ** 6), (1, 10 ** 8), (1, 3)],
    [(0, 1), (1, 8), (0, 1440), (1, 1440)],
    [(1, 1440)],
    [(1, 8)],
    [(1, 3)],
    [(1, 3)],
    [(0, 10 ** 6)],
    [(1, 8)],
    [(1, 3)],
    [],
    [],
    [(0, 3)],
    [],
    [(0, 2), (1, 8)],
    [(0, 10 ** 4)],
    [(1, 1440)],
    [],
]
# Of each list: the fewest and the most members, the least and the greatest member.
LISTS = {0: [(1, 3, 1, 60)] * 3 + [(1, 9, 1, 60)] * 2, 13: [(0, 600, 0, 10 ** 8)]}
NAMES = """fleet block stop run truck shovel place book minutes work balance blocks next check other fewest ahead
    now_call""".split()


class Model:
    def __init__(self):
        self.on = False

    def ask(self, call):
        number, plain = call[0], call[1:1 + len(RANGES[call[0]])]
        wrong = any(not low <= value <= high for value, (low, high) in zip(plain, RANGES[number]))
        rows, at = [], 1 + len(plain)
        for fewest, most, least, greatest in LISTS.get(number, []):
            row = call[at + 1:at + 1 + call[at]]
            at += 1 + call[at]
            wrong = wrong or not fewest <= len(row) <= most or any(not least <= one <= greatest for one in row)
            rows.append(row)
        if wrong:
            return [-1]
        if number > 0 and not self.on:
            return [-8]
        return getattr(self, NAMES[number])(*plain, *rows)

    def fleet(self, n, carries, rule, loading, tipping, park, onward, back):
        ways = len(loading) * len(tipping)
        if (len(park), len(onward), len(back)) != (len(loading), ways, ways):
            return [-7]
        self.on = True
        self.lists = loading, tipping, park, onward, back
        self.carries, self.rule, self.loading, self.tipping = carries, rule, loading, tipping
        self.S, self.P, self.T = range(1, len(loading) + 1), range(1, len(tipping) + 1), range(1, n + 1)
        self.ways = {}
        for s in self.S:
            self.ways["park", 0, s] = park[s - 1]
            for p in self.P:
                self.ways["onward", s, p] = onward[(s - 1) * len(tipping) + (p - 1)]
                self.ways["back", p, s] = back[(p - 1) * len(loading) + (s - 1)]
        self.now = 0
        self.told, self.told_at, self.left, self.stops, self.lines, self.tipped = {}, {}, {}, [], [], []
        self.state = {t: (0, 0, 0, 0, 0, 0) for t in self.T}  # does, where, minutes to go, block, kilograms, since
        self.seen = {t: [] for t in self.T}
        self.worked = {s: [] for s in self.S}
        return [0]

    def row(self, s):
        return [b for b, (shovel, kilograms, place) in self.told.items() if shovel == s and self.left[b] > 0]

    def loads(self, s):
        return sum(-(-self.left[b] // self.carries) for b in self.row(s))

    def doing(self, where, *doings):
        return [t for t in self.T if self.state[t][0] in doings and self.state[t][1] == where]

    def block(self, s, number, kilograms, p):
        if s not in self.S or p not in self.P:
            return [-2]
        if number in self.told:
            return [-3]
        if len(self.told) >= 20:
            return [-4]
        self.told[number] = (s, kilograms, p)
        self.told_at[number] = self.now
        self.left[number] = kilograms
        for t in self.T:
            if self.state[t][0] == 7:
                self.state[t] = (0,) + self.state[t][1:]
        return [0, self.loads(s)]

    def stop(self, kind, which, since, minutes):
        if which not in (self.S if kind else self.T):
            return [-2]
        if since < self.now:
            return [-5]
        if len(self.stops) >= 20:
            return [-4]
        self.stops.append((kind, which, range(since, since + minutes)))
        return [0]

    def halted(self, kind, which):
        return any((kind, which) == stop[:2] and self.now in stop[2] for stop in self.stops)

    def becomes(self, t, minute, does, where, to_go=0, number=0, kilograms=0):
        self.state[t] = (does, where, to_go, number, kilograms, minute)
        self.lines.append([minute, t, does, where, number, kilograms])

    def best(self, where):
        found = []
        for s in self.S:
            if self.loads(s) > len(self.doing(s, 1, 2)):
                way = self.ways["back" if where else "park", where, s]
                company = len(self.doing(s, 1, 2, 3))
                first = [company, way, way + self.loading[s - 1] * company][self.rule]
                found.append((first, [way, company, company][self.rule], s))
        return sorted(found)[0][2] if found else 0

    def run(self, n):
        if self.now + n > 1440:
            return [-6]
        for minute in range(n):
            self.minute()
        return [0, self.now, len(self.tipped)]

    def minute(self):
        m, going = self.now, [t for t in self.T if not self.halted(0, t)]
        for t in going:
            if self.state[t][0] == 0:
                where = self.state[t][1]
                s = self.best(where)
                if s:
                    self.becomes(t, m, 1, s, self.ways["back" if where else "park", where, s])
                else:
                    self.becomes(t, m, 7, where)
        for p in self.P:
            queue = sorted((self.state[t][5], t) for t in self.doing(p, 5) if t in going)
            if queue and not self.doing(p, 6):
                t = queue[0][1]
                self.becomes(t, m, 6, p, self.tipping[p - 1], *self.state[t][3:5])
        for s in self.S:
            queue = sorted((self.state[t][5], t) for t in self.doing(s, 2) if t in going)
            if queue and self.row(s) and not self.doing(s, 3) and not self.halted(1, s):
                b = self.row(s)[0]
                kilograms = min(self.carries, self.left[b])
                self.left[b] -= kilograms
                self.becomes(queue[0][1], m, 3, s, self.loading[s - 1], b, kilograms)
        for t in self.T:
            self.seen[t].append(self.state[t][0] if t in going else 8)
        for s in self.S:
            kinds = [(1, self.halted(1, s)), (0, self.doing(s, 3)), (3, not self.row(s)), (2, True)]
            self.worked[s].append([kind for kind, holds in kinds if holds][0])
        for t in going:
            does, where, to_go, b, kilograms, since = self.state[t]
            if does not in (1, 3, 4, 6) or does == 3 and self.halted(1, where):
                continue
            if to_go > 1:
                self.state[t] = (does, where, to_go - 1, b, kilograms, since)
            elif does == 6:
                self.tipped.append((where, b, kilograms))
                self.state[t] = (0, where, 0, 0, 0, m + 1)
            elif does == 3:
                p = self.told[b][2]
                self.becomes(t, m + 1, 4, p, self.ways["onward", where, p], b, kilograms)
            else:
                self.becomes(t, m + 1, does + 1, where, 0, b, kilograms)
        self.now += 1

    def truck(self, t):
        return [0, *self.state[t][:5]] if t in self.T else [-2]

    def shovel(self, s):
        if s not in self.S:
            return [-2]
        row = self.row(s)
        return [0, self.loads(s), len(self.doing(s, 1, 2)), sum(self.left[b] for b in row), *row]

    def place(self, p):
        if p not in self.P:
            return [-2]
        tipped = [kilograms for where, b, kilograms in self.tipped if where == p]
        return [0, len(tipped), sum(tipped), len(self.doing(p, 5))]

    def book(self, k):
        return [0] + [number for line in self.lines[k:k + 50] for number in line]

    def minutes(self, t):
        return [0] + [self.seen[t].count(does) for does in range(9)] if t in self.T else [-2]

    def work(self, s):
        return [0] + [self.worked[s].count(kind) for kind in range(4)] if s in self.S else [-2]

    def balance(self):
        told = sum(kilograms for s, kilograms, p in self.told.values())
        return [0, told, sum(self.left.values()), sum(state[4] for state in self.state.values()), self.kilograms()]

    def kilograms(self):
        return sum(kilograms for where, b, kilograms in self.tipped)

    def blocks(self):
        answer = [0]
        for number, (s, kilograms, p) in self.told.items():
            answer += [number, kilograms, sum(part for where, b, part in self.tipped if b == number), p]
        return answer

    def next(self, p):
        return [0, self.best(p)] if p == 0 or p in self.P else [-2]

    def check(self, numbers):
        if len(numbers) % 6:
            return [-7]
        told = [numbers[k:k + 6] for k in range(0, len(numbers), 6)]
        wrong = [k for k, line in enumerate(told) if self.lines[k:k + 1] != [line]]
        return [0, 0, wrong[0]] if wrong else [0, 1]

    def idle(self):
        return sum(kinds.count(2) for kinds in self.worked.values())

    def again(self, rule, n):
        anew = Model()
        anew.fleet(n, self.carries, rule, *self.lists)
        anew.stops = [stop for stop in self.stops if stop[0] == 1 or stop[1] <= n]
        for minute in range(self.now):
            for number, (s, kilograms, p) in self.told.items():
                if self.told_at[number] == minute:
                    anew.block(s, number, kilograms, p)
            anew.minute()
        return anew

    def sums(self):
        return [0, len(self.tipped), self.kilograms(), self.idle()]

    def other(self, rule, n):
        return self.again(rule, n).sums()

    def fewest(self, most):
        found = [(n, self.again(self.rule, n).idle()) for n in range(1, 9)]
        return [0, *([pair for pair in found if pair[1] <= most] + [(0,)])[0]]

    def ahead(self, n):
        later = copy.deepcopy(self)
        return [-6] if later.run(n) == [-6] else later.sums()

    def now_call(self):
        return [0, self.now, len(self.T), len(self.S), len(self.P), self.rule, len(self.lines), len(self.tipped),
                self.idle()]
