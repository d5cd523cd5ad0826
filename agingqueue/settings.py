"""The calls that set how the queue goes: config, window, freeze, thaw, tick."""

from agingqueue.refusals import BAD_ROW, ITEMS_THERE, OUT_OF_RANGE, TOO_MUCH
from agingqueue.state import EVERYTHING, LAST_GROUP, MOST_TIME, count_unended

MOST_LIMIT = 20
MOST_HOURS = 24
MOST_WINDOWS = 4
MOST_TICK = 1000


def config(queue, limit, day):
    if not 0 <= limit <= MOST_LIMIT or not 1 <= day <= MOST_HOURS:
        return [OUT_OF_RANGE]
    if count_unended(queue) > 0:
        return [ITEMS_THERE]
    queue.limit = limit
    queue.day = day
    queue.windows = {}
    return [0]


def window(queue, group, hours):
    if not 0 <= group <= LAST_GROUP:
        return [OUT_OF_RANGE]
    if len(hours) % 2 != 0 or len(hours) > 2 * MOST_WINDOWS:
        return [BAD_ROW]
    pairs = pairs_of(hours)
    if not all([is_window(pair, queue.day) for pair in pairs]):
        return [BAD_ROW]
    queue.windows[group] = pairs
    return [len(pairs)]


def pairs_of(hours):
    return [(hours[place], hours[place + 1]) for place in range(0, len(hours), 2)]


def is_window(pair, day):
    return 0 <= pair[0] < pair[1] <= day


def freeze(queue, group):
    return set_frozen(queue, group, True)


def thaw(queue, group):
    return set_frozen(queue, group, False)


def set_frozen(queue, group, value):
    if group != EVERYTHING and not 0 <= group <= LAST_GROUP:
        return [OUT_OF_RANGE]
    queue.frozen[group] = value
    return [0]


def tick(queue, hours):
    if not 0 <= hours <= MOST_TICK:
        return [OUT_OF_RANGE]
    if queue.time + hours > MOST_TIME:
        return [TOO_MUCH]
    queue.time = queue.time + hours
    return [queue.time]
