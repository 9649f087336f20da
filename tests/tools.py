"""Calls by name, played on a new object, and the answers one by one."""

from mineshift.shift import answers


def fleet(n=1, carries=100, rule=0, loading=(3,), tipping=(2,), park=(4,), onward=(5,), back=(6,)):
    call = [0, n, carries, rule]
    for row in (loading, tipping, park, onward, back):
        call += [len(row), *row]
    return call


def block(s=1, number=7, kilograms=1000, p=1):
    return [1, s, number, kilograms, p]


def stop_truck(which, since, minutes):
    return [2, 0, which, since, minutes]


def stop_shovel(which, since, minutes):
    return [2, 1, which, since, minutes]


def run(n):
    return [3, n]


def truck(t):
    return [4, t]


def shovel(s):
    return [5, s]


def place(p):
    return [6, p]


def book(k=0):
    return [7, k]


def minutes(t):
    return [8, t]


def work(s):
    return [9, s]


def balance():
    return [10]


def blocks():
    return [11]


def next_shovel(p):
    return [12, p]


def check(numbers):
    return [13, len(numbers), *numbers]


def other(rule, n):
    return [14, rule, n]


def fewest(most):
    return [15, most]


def ahead(n):
    return [16, n]


def now():
    return [17]


def split(flat):
    """The answers one by one; it fails if the counts don't fit."""
    found = []
    at = 0
    while at < len(flat):
        count = flat[at]
        if count < 1 or at + 1 + count > len(flat):
            raise AssertionError(f"a count that doesn't fit: {count} at {at}")
        found.append(flat[at + 1:at + 1 + count])
        at += 1 + count
    return found


def join(calls):
    return [number for call in calls for number in call]


def play(*calls):
    found = split(answers(join(calls)))
    if len(found) != len(calls):
        raise AssertionError(f"{len(calls)} calls, {len(found)} answers")
    return found


def last(*calls):
    return play(*calls)[-1]


def lines(*calls):
    """The book's lines after these calls, all of them."""
    found = []
    while True:
        answer = last(*calls, book(len(found)))
        if answer == [0]:
            return found
        found += [tuple(answer[k:k + 6]) for k in range(1, len(answer), 6)]


def look(n, shovels, places):
    """Calls that show all that there is to see."""
    views = [truck(t + 1) for t in range(n)] + [minutes(t + 1) for t in range(n)]
    views += [shovel(s + 1) for s in range(shovels)] + [place(p + 1) for p in range(places)]
    views += [work(s + 1) for s in range(shovels)] + [next_shovel(p) for p in range(places + 1)]
    return views + [balance(), blocks(), now(), book(0), book(50)]
