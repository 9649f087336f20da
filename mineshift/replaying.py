"""The calls that play the shift again from what was told: other, fewest and ahead."""

from mineshift.fleet import Fleet, kilograms_tipped, loads_tipped, minutes_without_truck
from mineshift.telling import goes_too_far, let_minutes_go_by, tell
from mineshift.words import DONE, MOST_TRUCKS, TOO_LATE


def played_again(fleet, rule, n):
    anew = Fleet(n, fleet.carries, rule, fleet.rows)
    for call in fleet.told:
        # A stop of a truck that this fleet hasn't is refused by it, and so left out.
        tell(anew, call)
    return anew


def outcome(fleet):
    return [DONE, loads_tipped(fleet), kilograms_tipped(fleet), minutes_without_truck(fleet)]


def other_shift(fleet, call):
    return outcome(played_again(fleet, call.plain[0], call.plain[1]))


def fewest_trucks(fleet, call):
    most = call.plain[0]
    for n in range(1, MOST_TRUCKS + 1):
        without = minutes_without_truck(played_again(fleet, fleet.rule, n))
        if without <= most:
            return [DONE, n, without]
    return [DONE, 0]


def look_ahead(fleet, call):
    n = call.plain[0]
    if goes_too_far(fleet, n):
        return [TOO_LATE]
    # The fleet itself mustn't change, so another one goes on from where it stands.
    anew = played_again(fleet, fleet.rule, len(fleet.trucks))
    let_minutes_go_by(anew, n)
    return outcome(anew)


REPLAYS = {
    14: other_shift,
    15: fewest_trucks,
    16: look_ahead,
}


def replay(fleet, call):
    return REPLAYS[call.number](fleet, call)
