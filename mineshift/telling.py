"""The calls that change a fleet: block, stop and run."""

from mineshift.fleet import Block, Stop, loads_left, loads_tipped, stoppable_things
from mineshift.minute import let_minute_go_by
from mineshift.words import (
    BLOCK_TOLD, DONE, ENDED, FREE, LAST_MINUTE, MOST_BLOCKS, MOST_STOPS, NO_SUCH, TOO_EARLY, TOO_LATE, TOO_MANY)


def tell_block(fleet, call):
    s = call.plain[0]
    number = call.plain[1]
    p = call.plain[3]
    if s > len(fleet.shovels) or p > len(fleet.places):
        return [NO_SUCH]
    if number in [block.number for block in fleet.blocks]:
        return [BLOCK_TOLD]
    if len(fleet.blocks) == MOST_BLOCKS:
        return [TOO_MANY]
    told = Block(number, call.plain[2], p)
    shovel = fleet.shovels[s - 1]
    fleet.blocks.append(told)
    shovel.row.append(told)
    free_ended_trucks(fleet)
    return [DONE, loads_left(fleet, shovel)]


def free_ended_trucks(fleet):
    for truck in fleet.trucks:
        if truck.does == ENDED:
            truck.does = FREE


def tell_stop(fleet, call):
    kind = call.plain[0]
    which = call.plain[1]
    since = call.plain[2]
    if which > len(stoppable_things(fleet, kind)):
        return [NO_SUCH]
    if since < fleet.minute:
        return [TOO_EARLY]
    if len(fleet.stops) == MOST_STOPS:
        return [TOO_MANY]
    fleet.stops.append(Stop(kind, which, since, call.plain[3]))
    return [DONE]


def goes_too_far(fleet, n):
    return fleet.minute + n > LAST_MINUTE


def run_minutes(fleet, call):
    n = call.plain[0]
    if goes_too_far(fleet, n):
        return [TOO_LATE]
    let_minutes_go_by(fleet, n)
    return [DONE, fleet.minute, loads_tipped(fleet)]


def let_minutes_go_by(fleet, n):
    for k in range(n):
        let_minute_go_by(fleet)


TELLINGS = {
    1: tell_block,
    2: tell_stop,
    3: run_minutes,
}


def tell(fleet, call):
    """Carries out a block, stop or run; if it's done it's kept, to be told anew to another fleet."""
    answer = TELLINGS[call.number](fleet, call)
    if answer[0] == DONE:
        fleet.told.append(call)
    return answer
