"""The rule: to which shovel a free truck is sent."""

from mineshift.fleet import how_many, loads_left, minutes_to_shovel
from mineshift.words import COMING, WITH_SHOVEL


def trucks_coming(fleet, shovel):
    return how_many(fleet, COMING, shovel.number)


def three_numbers(fleet, where, shovel):
    minutes = minutes_to_shovel(fleet, where, shovel.number)
    trucks = how_many(fleet, WITH_SHOVEL, shovel.number)
    if fleet.rule == 0:
        return (trucks, minutes, shovel.number)
    if fleet.rule == 1:
        return (minutes, trucks, shovel.number)
    return (minutes + shovel.loading * trucks, trucks, shovel.number)


def chosen_shovel(fleet, where):
    """The number of the shovel for a free truck there; 0 if there's none."""
    ranks = []
    for shovel in fleet.shovels:
        if loads_left(fleet, shovel) > trucks_coming(fleet, shovel):
            ranks.append(three_numbers(fleet, where, shovel))
    if len(ranks) == 0:
        return 0
    # The third number is the shovel's own, by every rule.
    return min(ranks)[2]
