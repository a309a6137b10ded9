"""The number that a call answers first: 0, or why it is refused."""

ACCEPTED = 0
OUT_OF_RANGE = -1
NOT_OPEN = -2
ALREADY_OPEN = -3
BAD_COUNT = -4
NO_SUCH_KIND = -5
TOO_FEW = -6
TOO_HEAVY = -7
OF_NO_USE = -8
GONE = -9
TOO_FEW_COINS = -10
