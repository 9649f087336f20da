"""The numbers by which the calls speak of things."""

FLEET_CALL = 0
# The calls that change a fleet, and those that play its shift again.
TELLING_CALLS = (1, 2, 3)
REPLAYING_CALLS = (14, 15, 16)

PARK = 0

FREE = 0
TO_SHOVEL = 1
AT_SHOVEL = 2
LOADED = 3
TO_PLACE = 4
AT_PLACE = 5
TIPS = 6
ENDED = 7
TRUCK_STOPPED = 8

# Of what a truck does: those by which it's coming to a shovel, is with it, or has minutes to go.
COMING = (1, 2)
WITH_SHOVEL = (1, 2, 3)
WITH_MINUTES_TO_GO = (1, 3, 4, 6)

SHOVEL_LOADS = 0
SHOVEL_STOPPED = 1
SHOVEL_WITHOUT_TRUCK = 2
SHOVEL_NOTHING_LEFT = 3

STOP_OF_TRUCK = 0

LAST_MINUTE = 1440
MOST_TRUCKS = 8
MOST_BLOCKS = 20
MOST_STOPS = 20
LINES_AT_ONCE = 50
NUMBERS_A_LINE = 6

DONE = 0
OUT_OF_RANGE = -1
NO_SUCH = -2
BLOCK_TOLD = -3
TOO_MANY = -4
TOO_EARLY = -5
TOO_LATE = -6
LISTS_UNFIT = -7
NO_FLEET = -8
