"""The refusals, by the numbers that are answered."""

OUT_OF_RANGE = -1
WRONG_LIST = -2
SHOW_ON_OR_OFF = -3
NO_SUCH = -4
BUSY_OR_IDLE = -5
OVER_LIMIT = -6
FULL = -7
CANNOT_BE = -8
TRICK_WAS_DONE = -9
NOT_SURE = -10
NO_CUE_WANTED = -11
NO_CUE_AT_PLACE = -12
NOT_AT_ITS_END = -13
