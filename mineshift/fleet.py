"""What a fleet is made of, and how all of it stands at one moment."""

from mineshift.words import FREE, PARK, SHOVEL_WITHOUT_TRUCK, STOP_OF_TRUCK


class Block:
    def __init__(self, number, kilograms, place):
        self.number = number
        self.kilograms = kilograms
        self.left = kilograms
        self.tipped = 0
        self.place = place


class Load:
    def __init__(self, block, kilograms):
        self.block = block
        self.kilograms = kilograms


class Truck:
    def __init__(self, number):
        self.number = number
        self.does = FREE
        self.where = PARK
        self.to_go = 0
        self.since = 0
        self.load = None
        self.stopped = False
        self.counted = [0] * 9


class Shovel:
    def __init__(self, number, loading):
        self.number = number
        self.loading = loading
        self.row = []
        self.stopped = False
        self.counted = [0] * 4


class Place:
    def __init__(self, number, tipping):
        self.number = number
        self.tipping = tipping
        self.loads = 0
        self.kilograms = 0


class Stop:
    def __init__(self, kind, which, since, minutes):
        self.kind = kind
        self.which = which
        self.since = since
        self.until = since + minutes


class Fleet:
    def __init__(self, n, carries, rule, rows):
        self.carries = carries
        self.rule = rule
        self.rows = rows
        self.trucks = [Truck(k + 1) for k in range(n)]
        self.shovels = [Shovel(k + 1, loading) for k, loading in enumerate(rows[0])]
        self.places = [Place(k + 1, tipping) for k, tipping in enumerate(rows[1])]
        self.park = rows[2]
        self.onward = rows[3]
        self.back = rows[4]
        self.told = []
        self.blocks = []
        self.stops = []
        self.book = []
        self.minute = 0


def stoppable_things(fleet, kind):
    return fleet.trucks if kind == STOP_OF_TRUCK else fleet.shovels


def minutes_to_shovel(fleet, where, shovel):
    if where == PARK:
        return fleet.park[shovel - 1]
    return fleet.back[(where - 1) * len(fleet.shovels) + shovel - 1]


def minutes_to_place(fleet, shovel, place):
    return fleet.onward[(shovel - 1) * len(fleet.places) + place - 1]


def loads_left(fleet, shovel):
    return sum([(block.left + fleet.carries - 1) // fleet.carries for block in shovel.row])


def loads_tipped(fleet):
    return sum([place.loads for place in fleet.places])


def kilograms_tipped(fleet):
    return sum([place.kilograms for place in fleet.places])


def minutes_without_truck(fleet):
    return sum([shovel.counted[SHOVEL_WITHOUT_TRUCK] for shovel in fleet.shovels])


def how_many(fleet, doings, where):
    return len([truck for truck in fleet.trucks if truck.does in doings and truck.where == where])


def load_numbers(truck):
    if truck.load is None:
        return [0, 0]
    return [truck.load.block.number, truck.load.kilograms]
