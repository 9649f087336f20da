"""What each call does and answers, its ranges having been looked at."""

from mineshift.fleet import (
    Block, Fleet, Stop, how_many, load_numbers, loads_left, loads_tipped, stoppable_things)
from mineshift.forms import is_within_ranges
from mineshift.minute import let_minute_go_by
from mineshift.rule import trucks_coming
from mineshift.words import (
    AT_PLACE, BLOCK_TOLD, DONE, ENDED, FLEET_CALL, FREE, LAST_MINUTE, LINES_AT_ONCE, LISTS_UNFIT, MOST_BLOCKS,
    MOST_STOPS, NO_FLEET, NO_SUCH, OUT_OF_RANGE, TOO_EARLY, TOO_LATE, TOO_MANY)


class Mine:
    def __init__(self):
        self.fleet = None


def tell_fleet(mine, plain, rows):
    shovels = len(rows[0])
    ways = shovels * len(rows[1])
    if len(rows[2]) != shovels or len(rows[3]) != ways or len(rows[4]) != ways:
        return [LISTS_UNFIT]
    mine.fleet = Fleet(plain[0], plain[1], plain[2], rows)
    return [DONE]


def tell_block(fleet, plain):
    s = plain[0]
    number = plain[1]
    p = plain[3]
    if s > len(fleet.shovels) or p > len(fleet.places):
        return [NO_SUCH]
    if number in [block.number for block in fleet.blocks]:
        return [BLOCK_TOLD]
    if len(fleet.blocks) == MOST_BLOCKS:
        return [TOO_MANY]
    told = Block(number, plain[2], p)
    shovel = fleet.shovels[s - 1]
    fleet.blocks.append(told)
    shovel.row.append(told)
    free_ended_trucks(fleet)
    return [DONE, loads_left(fleet, shovel)]


def free_ended_trucks(fleet):
    for truck in fleet.trucks:
        if truck.does == ENDED:
            truck.does = FREE


def tell_stop(fleet, plain):
    kind = plain[0]
    which = plain[1]
    since = plain[2]
    if which > len(stoppable_things(fleet, kind)):
        return [NO_SUCH]
    if since < fleet.minute:
        return [TOO_EARLY]
    if len(fleet.stops) == MOST_STOPS:
        return [TOO_MANY]
    fleet.stops.append(Stop(kind, which, since, plain[3]))
    return [DONE]


def run_minutes(fleet, plain):
    n = plain[0]
    if fleet.minute + n > LAST_MINUTE:
        return [TOO_LATE]
    for k in range(n):
        let_minute_go_by(fleet)
    return [DONE, fleet.minute, loads_tipped(fleet)]


def show_truck(fleet, plain):
    t = plain[0]
    if t > len(fleet.trucks):
        return [NO_SUCH]
    truck = fleet.trucks[t - 1]
    return [DONE, truck.does, truck.where, truck.to_go] + load_numbers(truck)


def show_shovel(fleet, plain):
    s = plain[0]
    if s > len(fleet.shovels):
        return [NO_SUCH]
    shovel = fleet.shovels[s - 1]
    kilograms = sum([block.left for block in shovel.row])
    numbers = [block.number for block in shovel.row]
    return [DONE, loads_left(fleet, shovel), trucks_coming(fleet, shovel), kilograms] + numbers


def show_place(fleet, plain):
    p = plain[0]
    if p > len(fleet.places):
        return [NO_SUCH]
    place = fleet.places[p - 1]
    return [DONE, place.loads, place.kilograms, how_many(fleet, (AT_PLACE,), place.number)]


def show_book(fleet, plain):
    k = plain[0]
    answer = [DONE]
    for line in fleet.book[k:k + LINES_AT_ONCE]:
        answer.extend(line)
    return answer


def show_minutes(fleet, plain):
    t = plain[0]
    if t > len(fleet.trucks):
        return [NO_SUCH]
    return [DONE] + fleet.trucks[t - 1].counted


OF_A_FLEET = {
    1: tell_block,
    2: tell_stop,
    3: run_minutes,
    4: show_truck,
    5: show_shovel,
    6: show_place,
    7: show_book,
    8: show_minutes,
}


def answer_call(mine, call):
    if not is_within_ranges(call):
        return [OUT_OF_RANGE]
    if call.number == FLEET_CALL:
        return tell_fleet(mine, call.plain, call.rows)
    if mine.fleet is None:
        return [NO_FLEET]
    return OF_A_FLEET[call.number](mine.fleet, call.plain)
