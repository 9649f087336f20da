"""The calls that show how a fleet stands and change nothing."""

from mineshift.fleet import how_many, kilograms_tipped, load_numbers, loads_left, loads_tipped, minutes_without_truck
from mineshift.rule import chosen_shovel, trucks_coming
from mineshift.words import AT_PLACE, DONE, LINES_AT_ONCE, LISTS_UNFIT, NO_SUCH, NUMBERS_A_LINE


def show_truck(fleet, call):
    t = call.plain[0]
    if t > len(fleet.trucks):
        return [NO_SUCH]
    truck = fleet.trucks[t - 1]
    return [DONE, truck.does, truck.where, truck.to_go] + load_numbers(truck)


def show_shovel(fleet, call):
    s = call.plain[0]
    if s > len(fleet.shovels):
        return [NO_SUCH]
    shovel = fleet.shovels[s - 1]
    numbers = [block.number for block in shovel.row]
    return [DONE, loads_left(fleet, shovel), trucks_coming(fleet, shovel), kilograms_before(shovel)] + numbers


def kilograms_before(shovel):
    return sum([block.left for block in shovel.row])


def show_place(fleet, call):
    p = call.plain[0]
    if p > len(fleet.places):
        return [NO_SUCH]
    place = fleet.places[p - 1]
    return [DONE, place.loads, place.kilograms, how_many(fleet, (AT_PLACE,), place.number)]


def show_book(fleet, call):
    k = call.plain[0]
    answer = [DONE]
    for line in fleet.book[k:k + LINES_AT_ONCE]:
        answer.extend(line)
    return answer


def show_minutes(fleet, call):
    t = call.plain[0]
    if t > len(fleet.trucks):
        return [NO_SUCH]
    return [DONE] + fleet.trucks[t - 1].counted


def show_work(fleet, call):
    s = call.plain[0]
    if s > len(fleet.shovels):
        return [NO_SUCH]
    return [DONE] + fleet.shovels[s - 1].counted


def show_balance(fleet, call):
    told = sum([block.kilograms for block in fleet.blocks])
    left = sum([kilograms_before(shovel) for shovel in fleet.shovels])
    carried = sum([truck.load.kilograms for truck in fleet.trucks if truck.load is not None])
    return [DONE, told, left, carried, kilograms_tipped(fleet)]


def show_blocks(fleet, call):
    answer = [DONE]
    for block in fleet.blocks:
        answer.extend([block.number, block.kilograms, block.tipped, block.place])
    return answer


def show_next(fleet, call):
    where = call.plain[0]
    if where > len(fleet.places):
        return [NO_SUCH]
    return [DONE, chosen_shovel(fleet, where)]


def check_book(fleet, call):
    numbers = call.rows[0]
    if len(numbers) % NUMBERS_A_LINE != 0:
        return [LISTS_UNFIT]
    for k in range(len(numbers) // NUMBERS_A_LINE):
        line = numbers[k * NUMBERS_A_LINE:(k + 1) * NUMBERS_A_LINE]
        if k >= len(fleet.book) or line != fleet.book[k]:
            return [DONE, 0, k]
    return [DONE, 1]


def show_now(fleet, call):
    things = [len(fleet.trucks), len(fleet.shovels), len(fleet.places)]
    done = [len(fleet.book), loads_tipped(fleet), minutes_without_truck(fleet)]
    return [DONE, fleet.minute] + things + [fleet.rule] + done


VIEWS = {
    4: show_truck,
    5: show_shovel,
    6: show_place,
    7: show_book,
    8: show_minutes,
    9: show_work,
    10: show_balance,
    11: show_blocks,
    12: show_next,
    13: check_book,
    17: show_now,
}


def show(fleet, call):
    return VIEWS[call.number](fleet, call)
