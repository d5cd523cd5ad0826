"""The numbers that stand for a refusal."""

NO_REFUSAL = 0
OUT_OF_RANGE = -1
BAD_ROW = -2
NO_SUCH_ITEM = -6
TOO_MUCH = -7
ITEMS_THERE = -8
NUMBER_TAKEN = -9
