"""What is answered to a call: the refusals of all calls, then the call's own part of the program."""

from mineshift.fleet import Fleet
from mineshift.forms import is_within_ranges
from mineshift.replaying import replay
from mineshift.showing import show
from mineshift.telling import tell
from mineshift.words import DONE, FLEET_CALL, LISTS_UNFIT, NO_FLEET, OUT_OF_RANGE, REPLAYING_CALLS, TELLING_CALLS


class Mine:
    def __init__(self):
        self.fleet = None


def tell_fleet(mine, call):
    rows = call.rows
    shovels = len(rows[0])
    ways = shovels * len(rows[1])
    if len(rows[2]) != shovels or len(rows[3]) != ways or len(rows[4]) != ways:
        return [LISTS_UNFIT]
    mine.fleet = Fleet(call.plain[0], call.plain[1], call.plain[2], rows)
    return [DONE]


def answer_call(mine, call):
    if not is_within_ranges(call):
        return [OUT_OF_RANGE]
    if call.number == FLEET_CALL:
        return tell_fleet(mine, call)
    if mine.fleet is None:
        return [NO_FLEET]
    if call.number in TELLING_CALLS:
        return tell(mine.fleet, call)
    if call.number in REPLAYING_CALLS:
        return replay(mine.fleet, call)
    return show(mine.fleet, call)
