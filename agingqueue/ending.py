"""The calls that end an item or put it back: outcome, again, withdraw."""

from agingqueue.refusals import NO_SUCH_ITEM, OUT_OF_RANGE
from agingqueue.state import LANDED, REJECTED, WITHDRAWN


def outcome(queue, number, landed):
    if landed not in (0, 1):
        return [OUT_OF_RANGE]
    if number not in queue.running:
        return [NO_SUCH_ITEM]
    queue.running.remove(number)
    queue.ended[number] = LANDED if landed == 1 else REJECTED
    return [len(queue.ended)]


def again(queue, number):
    if number not in queue.running:
        return [NO_SUCH_ITEM]
    queue.running.remove(number)
    # An item that is put back counts as the first that came.
    queue.waiting.insert(0, number)
    return [len(queue.waiting)]


def withdraw(queue, number):
    if number not in queue.waiting:
        return [NO_SUCH_ITEM]
    queue.waiting.remove(number)
    queue.ended[number] = WITHDRAWN
    return [len(queue.waiting)]
