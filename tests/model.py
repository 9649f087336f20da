"""The shift once more, written apart from the program from the document's words alone, to compare with.

It keeps whole histories where the program keeps counts, and finds each thing anew when it's asked for.
"""

RANGES = [
    [(1, 8), (1, 10 ** 6), (0, 2)],
    [(1, 3), (1, 10 ** 6), (1, 10 ** 8), (1, 3)],
    [(0, 1), (1, 8), (0, 1440), (1, 1440)],
    [(1, 1440)],
    [(1, 8)],
    [(1, 3)],
    [(1, 3)],
    [(0, 10 ** 6)],
    [(1, 8)],
]
MEMBERS = [3, 3, 3, 9, 9]


class Model:
    def __init__(self):
        self.on = False

    def ask(self, call):
        number, plain = call[0], call[1:1 + len(RANGES[call[0]])]
        wrong = any(not low <= value <= high for value, (low, high) in zip(plain, RANGES[number]))
        if number == 0:
            rows, at = [], 4
            while at < len(call):
                rows.append(call[at + 1:at + 1 + call[at]])
                at += 1 + call[at]
            for row, most in zip(rows, MEMBERS):
                wrong = wrong or not 1 <= len(row) <= most or min(row) < 1 or max(row) > 60
            plain = plain + rows
        if wrong:
            return [-1]
        if number > 0 and not self.on:
            return [-8]
        names = ["fleet", "block", "stop", "run", "truck", "shovel", "place", "book", "minutes"]
        return getattr(self, names[number])(*plain)

    def fleet(self, n, carries, rule, loading, tipping, park, onward, back):
        ways = len(loading) * len(tipping)
        if (len(park), len(onward), len(back)) != (len(loading), ways, ways):
            return [-7]
        self.on = True
        self.carries, self.rule, self.loading, self.tipping = carries, rule, loading, tipping
        self.S, self.P, self.T = range(1, len(loading) + 1), range(1, len(tipping) + 1), range(1, n + 1)
        self.ways = {}
        for s in self.S:
            self.ways["park", 0, s] = park[s - 1]
            for p in self.P:
                self.ways["onward", s, p] = onward[(s - 1) * len(tipping) + (p - 1)]
                self.ways["back", p, s] = back[(p - 1) * len(loading) + (s - 1)]
        self.now = 0
        self.told, self.left, self.stops, self.lines, self.tipped = {}, {}, [], [], []
        self.state = {t: (0, 0, 0, 0, 0, 0) for t in self.T}  # does, where, minutes to go, block, kilograms, since
        self.seen = {t: [] for t in self.T}
        return [0]

    def row(self, s):
        return [b for b, (shovel, kilograms, place) in self.told.items() if shovel == s and self.left[b] > 0]

    def loads(self, s):
        return sum(-(-self.left[b] // self.carries) for b in self.row(s))

    def doing(self, where, *doings):
        return [t for t in self.T if self.state[t][0] in doings and self.state[t][1] == where]

    def block(self, s, number, kilograms, p):
        if s not in self.S or p not in self.P:
            return [-2]
        if number in self.told:
            return [-3]
        if len(self.told) >= 20:
            return [-4]
        self.told[number] = (s, kilograms, p)
        self.left[number] = kilograms
        for t in self.T:
            if self.state[t][0] == 7:
                self.state[t] = (0,) + self.state[t][1:]
        return [0, self.loads(s)]

    def stop(self, kind, which, since, minutes):
        if which not in (self.S if kind else self.T):
            return [-2]
        if since < self.now:
            return [-5]
        if len(self.stops) >= 20:
            return [-4]
        self.stops.append((kind, which, range(since, since + minutes)))
        return [0]

    def halted(self, kind, which):
        return any((kind, which) == stop[:2] and self.now in stop[2] for stop in self.stops)

    def becomes(self, t, minute, does, where, to_go=0, number=0, kilograms=0):
        self.state[t] = (does, where, to_go, number, kilograms, minute)
        self.lines.append([minute, t, does, where, number, kilograms])

    def best(self, where):
        found = []
        for s in self.S:
            if self.loads(s) > len(self.doing(s, 1, 2)):
                way = self.ways["back" if where else "park", where, s]
                company = len(self.doing(s, 1, 2, 3))
                first = [company, way, way + self.loading[s - 1] * company][self.rule]
                found.append((first, [way, company, company][self.rule], s))
        return sorted(found)[0][2] if found else 0

    def run(self, n):
        if self.now + n > 1440:
            return [-6]
        for minute in range(n):
            self.minute()
        return [0, self.now, len(self.tipped)]

    def minute(self):
        m, going = self.now, [t for t in self.T if not self.halted(0, t)]
        for t in going:
            if self.state[t][0] == 0:
                where = self.state[t][1]
                s = self.best(where)
                if s:
                    self.becomes(t, m, 1, s, self.ways["back" if where else "park", where, s])
                else:
                    self.becomes(t, m, 7, where)
        for p in self.P:
            queue = sorted((self.state[t][5], t) for t in self.doing(p, 5) if t in going)
            if queue and not self.doing(p, 6):
                t = queue[0][1]
                self.becomes(t, m, 6, p, self.tipping[p - 1], *self.state[t][3:5])
        for s in self.S:
            queue = sorted((self.state[t][5], t) for t in self.doing(s, 2) if t in going)
            if queue and self.row(s) and not self.doing(s, 3) and not self.halted(1, s):
                b = self.row(s)[0]
                kilograms = min(self.carries, self.left[b])
                self.left[b] -= kilograms
                self.becomes(queue[0][1], m, 3, s, self.loading[s - 1], b, kilograms)
        for t in self.T:
            self.seen[t].append(self.state[t][0] if t in going else 8)
        for t in going:
            does, where, to_go, b, kilograms, since = self.state[t]
            if does not in (1, 3, 4, 6) or does == 3 and self.halted(1, where):
                continue
            if to_go > 1:
                self.state[t] = (does, where, to_go - 1, b, kilograms, since)
            elif does == 6:
                self.tipped.append((where, b, kilograms))
                self.state[t] = (0, where, 0, 0, 0, m + 1)
            elif does == 3:
                p = self.told[b][2]
                self.becomes(t, m + 1, 4, p, self.ways["onward", where, p], b, kilograms)
            else:
                self.becomes(t, m + 1, does + 1, where, 0, b, kilograms)
        self.now += 1

    def truck(self, t):
        return [0, *self.state[t][:5]] if t in self.T else [-2]

    def shovel(self, s):
        if s not in self.S:
            return [-2]
        row = self.row(s)
        return [0, self.loads(s), len(self.doing(s, 1, 2)), sum(self.left[b] for b in row), *row]

    def place(self, p):
        if p not in self.P:
            return [-2]
        tipped = [kilograms for where, b, kilograms in self.tipped if where == p]
        return [0, len(tipped), sum(tipped), len(self.doing(p, 5))]

    def book(self, k):
        return [0] + [number for line in self.lines[k:k + 50] for number in line]

    def minutes(self, t):
        return [0] + [self.seen[t].count(does) for does in range(9)] if t in self.T else [-2]
