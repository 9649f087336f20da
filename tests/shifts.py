"""Shifts made up from a seed, the same ones every time."""

import random

from tests.tools import (
    ahead, balance, block, blocks, book, check, fewest, fleet, minutes, next_shovel, now, other, place, run, shovel,
    truck, work)


def some_fleet(draw, most_minutes=12):
    shovels, places = draw.randint(1, 3), draw.randint(1, 3)
    ways = shovels * places

    def times(many):
        return [draw.randint(1, most_minutes) for k in range(many)]

    return fleet(draw.randint(1, 8), draw.choice([1, 7, 100, 100, 1000]), draw.randint(0, 2), times(shovels),
                 times(places), times(shovels), times(ways), times(ways))


def some_block(draw):
    return block(draw.randint(1, 3), draw.randint(1, 40), draw.choice([1, 99, 100, 101, 700, 2500]), draw.randint(1, 3))


def some_stop(draw, latest):
    return [2, draw.randint(0, 1), draw.randint(1, 4), draw.randint(0, latest), draw.randint(1, 30)]


def some_view(draw):
    return draw.choice([truck(draw.randint(1, 8)), shovel(draw.randint(1, 3)), place(draw.randint(1, 3)),
                        book(draw.randint(0, 120)), minutes(draw.randint(1, 8)), work(draw.randint(1, 3)), balance(),
                        blocks(), next_shovel(draw.randint(0, 3)), some_check(draw), now()])


def some_check(draw):
    first = [0, 1, draw.choice([1, 1, 1, 7]), draw.randint(0, 2), 0, 0]
    return check((first * 2)[:draw.choice([0, 6, 6, 6, 12, 5])])


def some_replay(draw):
    return draw.choice([other(draw.randint(0, 2), draw.randint(1, 8)), fewest(draw.choice([0, 5, 20, 80, 300])),
                        ahead(draw.choice([1, 2, 10, 60, 1300]))])


def some_wrong(draw):
    value = draw.choice([-1, 0, 9, 61, 1441, 10 ** 18, -10 ** 18])
    call = draw.choice([some_fleet(draw), some_block(draw), some_stop(draw, 300), run(1), check([0] * 6),
                        next_shovel(0), truck(1), shovel(1), place(1), book(), minutes(1), work(1), other(0, 1),
                        fewest(0), ahead(1)])
    # A list's count must stay what it is: it tells how the list is read.
    places = {0: (1, 2, 3, 5), 1: (1, 2, 3, 4), 2: (1, 2, 3, 4), 13: (2, 3, 4, 5, 6, 7), 14: (1, 2)}.get(call[0], (1,))
    call[draw.choice(places)] = value
    return call


def whole_line(seed, many=120, replays=2):
    """Calls of all kinds, good ones and wrong ones, at most so many of them other, fewest or ahead."""
    draw = random.Random(seed)
    calls = [some_fleet(draw)] if draw.random() < 0.9 else []
    while len(calls) < many:
        lot = draw.random()
        if lot < 0.02:
            calls.append(some_fleet(draw))
        elif lot < 0.2:
            calls.append(some_block(draw))
        elif lot < 0.35:
            calls.append(some_stop(draw, 300))
        elif lot < 0.55:
            calls.append(run(draw.choice([1, 1, 2, 3, 5, 9, 20, 50])))
        elif lot < 0.6:
            calls.append(some_wrong(draw))
        elif lot < 0.64 and replays > 0:
            calls.append(some_replay(draw))
            replays -= 1
        else:
            calls.append(some_view(draw))
    return calls


def told_shift(seed):
    """A fleet, its blocks and its stops, all told ahead of the first minute."""
    draw = random.Random(seed)
    call = some_fleet(draw)
    calls = [call]
    for k in range(draw.randint(1, 12)):
        calls.append(block(draw.randint(1, 3), k + 1, draw.randint(1, 40) * 50, draw.randint(1, 3)))
    for k in range(draw.randint(0, 12)):
        calls.append(some_stop(draw, 150))
    return calls


def late_shift(seed, long):
    """By minute what is told when it begins: the fleet and some blocks at first, blocks and stops later on."""
    draw = random.Random(seed)
    script = {0: [some_fleet(draw)]}
    for k in range(20):
        minute = draw.choice([0, draw.randint(0, long - 1)])
        told = block(draw.randint(1, 3), k + 1, draw.randint(1, 40) * 50, draw.randint(1, 3))
        script.setdefault(minute, []).append(told)
    for k in range(20):
        minute = draw.randint(0, long - 1)
        told = [2, draw.randint(0, 1), draw.randint(1, 4), minute + draw.randint(0, 60), draw.randint(1, 40)]
        script.setdefault(minute, []).append(told)
    return script
