"""Shifts made up from a seed, the same ones every time."""

import random

from tests.tools import block, book, fleet, minutes, place, run, shovel, truck


def some_fleet(draw, most_minutes=12):
    shovels, places = draw.randint(1, 3), draw.randint(1, 3)
    ways = shovels * places

    def times(many):
        return [draw.randint(1, most_minutes) for k in range(many)]

    return fleet(draw.randint(1, 8), draw.choice([1, 7, 100, 100, 1000]), draw.randint(0, 2), times(shovels),
                 times(places), times(shovels), times(ways), times(ways))


def some_block(draw):
    return block(draw.randint(1, 3), draw.randint(1, 40), draw.choice([1, 99, 100, 101, 700, 2500]), draw.randint(1, 3))


def some_stop(draw, latest):
    return [2, draw.randint(0, 1), draw.randint(1, 4), draw.randint(0, latest), draw.randint(1, 30)]


def some_view(draw):
    return draw.choice([truck(draw.randint(1, 8)), shovel(draw.randint(1, 3)), place(draw.randint(1, 3)),
                        book(draw.randint(0, 120)), minutes(draw.randint(1, 8))])


def some_wrong(draw):
    call = draw.choice([some_fleet(draw), some_block(draw), some_stop(draw, 300), run(1), some_view(draw)])
    call[draw.randint(1, 4) if len(call) > 4 else 1] = draw.choice([-1, 0, 9, 61, 1441, 10 ** 18, -10 ** 18])
    # A fleet's count must stay what it is: it tells how the list is read.
    return call if call[0] != 0 or call[4] in (1, 2, 3) else some_view(draw)


def whole_line(seed, many=120):
    """Calls of all kinds, good ones and wrong ones."""
    draw = random.Random(seed)
    calls = [some_fleet(draw)] if draw.random() < 0.9 else []
    while len(calls) < many:
        lot = draw.random()
        if lot < 0.02:
            calls.append(some_fleet(draw))
        elif lot < 0.2:
            calls.append(some_block(draw))
        elif lot < 0.35:
            calls.append(some_stop(draw, 300))
        elif lot < 0.55:
            calls.append(run(draw.choice([1, 1, 2, 3, 5, 9, 20, 50])))
        elif lot < 0.6:
            calls.append(some_wrong(draw))
        else:
            calls.append(some_view(draw))
    return calls


def told_shift(seed):
    """A fleet, its blocks and its stops, all told ahead of the first minute."""
    draw = random.Random(seed)
    call = some_fleet(draw)
    calls = [call]
    for k in range(draw.randint(1, 12)):
        calls.append(block(draw.randint(1, 3), k + 1, draw.randint(1, 40) * 50, draw.randint(1, 3)))
    for k in range(draw.randint(0, 12)):
        calls.append(some_stop(draw, 150))
    return calls
