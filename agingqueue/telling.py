"""The calls that tell of the queue and change nothing: why, place, next_open, status."""

from agingqueue.ready import has_landed, is_frozen, is_within_hours, numbers_in_order
from agingqueue.refusals import NO_SUCH_ITEM, OUT_OF_RANGE
from agingqueue.state import LAST_GROUP

# What why answers of an item that has not ended.
READY = 1
FROZEN = 2
OUTSIDE_HOURS = 3
NEEDS_MISSING = 4
NEEDS_LOST = 5
RUNS = 6


def why(queue, number):
    if number not in queue.known:
        return [NO_SUCH_ITEM]
    if number in queue.ended:
        return [queue.ended[number]]
    if number in queue.running:
        return [RUNS]
    return why_waiting(queue, queue.known[number])


def why_waiting(queue, item):
    missing = [need for need in item.needs if not has_landed(queue, need)]
    # A need that ended without landing never will.
    lost = [need for need in missing if need in queue.ended]
    if len(lost) > 0:
        return [NEEDS_LOST, len(lost)] + lost
    if len(missing) > 0:
        return [NEEDS_MISSING, len(missing)] + missing
    if is_frozen(queue, item.group):
        return [FROZEN]
    if not is_within_hours(queue, item.group, queue.time):
        return [OUTSIDE_HOURS]
    return [READY, item.passed]


def place(queue, number):
    numbers = numbers_in_order(queue)
    if number not in numbers:
        return [NO_SUCH_ITEM]
    return [numbers.index(number)]


def next_open(queue, group):
    if not 0 <= group <= LAST_GROUP:
        return [OUT_OF_RANGE]
    # Every window has an hour of the day in it, so a day is far enough to look.
    return [min([later for later in range(queue.day) if is_within_hours(queue, group, queue.time + later)])]


def status(queue):
    landed = len([number for number in queue.ended if has_landed(queue, number)])
    lost = len(queue.ended) - landed
    return [queue.limit, queue.day, queue.time, len(queue.waiting), len(queue.running), landed, lost]
