"""The numbers that refuse a call, in the order in which those that are due are asked for."""

OUT_OF_RANGE = -1
BAD_LIST = -2
UNKNOWN = -10
KEY_TAKEN = -3
SAME_EVENT = -4
HI_BELOW_LO = -5
TOO_MANY = -6
ALREADY_SO = -7
TOO_MANY_STAND = -11
CANNOT_BE = -8
