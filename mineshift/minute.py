"""A minute: its five steps, one after another."""

from mineshift.fleet import (
    Load, how_many, load_numbers, minutes_to_place, minutes_to_shovel, stoppable_things)
from mineshift.rule import chosen_shovel
from mineshift.words import (
    AT_PLACE, AT_SHOVEL, ENDED, FREE, LOADED, SHOVEL_LOADS, SHOVEL_NOTHING_LEFT, SHOVEL_STOPPED,
    SHOVEL_WITHOUT_TRUCK, TIPS, TO_PLACE, TO_SHOVEL, TRUCK_STOPPED, WITH_MINUTES_TO_GO)


def let_minute_go_by(fleet):
    mark_stopped(fleet)
    send_free_trucks(fleet)
    begin_tipping(fleet)
    begin_loading(fleet)
    count_minute(fleet)
    move_trucks(fleet)
    fleet.minute += 1


def mark_stopped(fleet):
    for truck in fleet.trucks:
        truck.stopped = False
    for shovel in fleet.shovels:
        shovel.stopped = False
    for stop in fleet.stops:
        if stop.since <= fleet.minute < stop.until:
            thing = stoppable_things(fleet, stop.kind)[stop.which - 1]
            thing.stopped = True


def comes_to(fleet, minute, truck, does, where, to_go):
    truck.does = does
    truck.where = where
    truck.to_go = to_go
    truck.since = minute
    fleet.book.append([minute, truck.number, does, where] + load_numbers(truck))


def send_free_trucks(fleet):
    for truck in fleet.trucks:
        if truck.does == FREE and not truck.stopped:
            shovel = chosen_shovel(fleet, truck.where)
            if shovel == 0:
                comes_to(fleet, fleet.minute, truck, ENDED, truck.where, 0)
            else:
                minutes = minutes_to_shovel(fleet, truck.where, shovel)
                comes_to(fleet, fleet.minute, truck, TO_SHOVEL, shovel, minutes)


def first_waiting(fleet, does, where):
    first = None
    for truck in fleet.trucks:
        if truck.does == does and truck.where == where and not truck.stopped:
            # Trucks are walked by rising number, so of those alike the least number stays.
            if first is None or truck.since < first.since:
                first = truck
    return first


def begin_tipping(fleet):
    for place in fleet.places:
        truck = first_waiting(fleet, AT_PLACE, place.number)
        if truck is not None and how_many(fleet, (TIPS,), place.number) == 0:
            comes_to(fleet, fleet.minute, truck, TIPS, place.number, place.tipping)


def begin_loading(fleet):
    for shovel in fleet.shovels:
        if not shovel.stopped and len(shovel.row) > 0 and not loads_now(fleet, shovel):
            truck = first_waiting(fleet, AT_SHOVEL, shovel.number)
            if truck is not None:
                truck.load = take_load(fleet, shovel)
                comes_to(fleet, fleet.minute, truck, LOADED, shovel.number, shovel.loading)


def loads_now(fleet, shovel):
    return how_many(fleet, (LOADED,), shovel.number) > 0


def take_load(fleet, shovel):
    block = shovel.row[0]
    load = Load(block, min(fleet.carries, block.left))
    block.left -= load.kilograms
    if block.left == 0:
        shovel.row.pop(0)
    return load


def count_minute(fleet):
    for truck in fleet.trucks:
        truck.counted[TRUCK_STOPPED if truck.stopped else truck.does] += 1
    for shovel in fleet.shovels:
        shovel.counted[shovel_counts_as(fleet, shovel)] += 1


def shovel_counts_as(fleet, shovel):
    if shovel.stopped:
        return SHOVEL_STOPPED
    if loads_now(fleet, shovel):
        return SHOVEL_LOADS
    if len(shovel.row) == 0:
        return SHOVEL_NOTHING_LEFT
    return SHOVEL_WITHOUT_TRUCK


def move_trucks(fleet):
    for truck in fleet.trucks:
        if truck.does in WITH_MINUTES_TO_GO and not is_held(fleet, truck):
            if truck.to_go > 1:
                truck.to_go -= 1
            else:
                go_on(fleet, truck)


def is_held(fleet, truck):
    return truck.stopped or (truck.does == LOADED and fleet.shovels[truck.where - 1].stopped)


def go_on(fleet, truck):
    after = fleet.minute + 1
    if truck.does == TO_SHOVEL:
        comes_to(fleet, after, truck, AT_SHOVEL, truck.where, 0)
    elif truck.does == LOADED:
        place = truck.load.block.place
        comes_to(fleet, after, truck, TO_PLACE, place, minutes_to_place(fleet, truck.where, place))
    elif truck.does == TO_PLACE:
        comes_to(fleet, after, truck, AT_PLACE, truck.where, 0)
    else:
        tip_load(fleet, truck)


def tip_load(fleet, truck):
    place = fleet.places[truck.where - 1]
    place.loads += 1
    place.kilograms += truck.load.kilograms
    truck.load.block.tipped += truck.load.kilograms
    truck.load = None
    truck.does = FREE
    truck.to_go = 0
