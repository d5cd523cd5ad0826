"""The calls that take items in and hand them out: add, order, serve."""

from agingqueue.ready import numbers_in_order, ready_items
from agingqueue.refusals import BAD_ROW, NO_REFUSAL, NO_SUCH_ITEM, NUMBER_TAKEN, OUT_OF_RANGE, TOO_MUCH
from agingqueue.state import LAST_GROUP, MOST_TIME, Item, count_unended

LAST_NUMBER = 999
LAST_PRIO = 9
MOST_NEEDS = 6
MOST_UNENDED = 40
MOST_KNOWN = 400


def add(queue, number, prio, group, needs):
    refusal = refusal_of_add(queue, number, prio, group, needs)
    if refusal != NO_REFUSAL:
        return [refusal]
    queue.known[number] = Item(number, prio, group, list(needs))
    queue.waiting.append(number)
    return [len(queue.waiting)]


def refusal_of_add(queue, number, prio, group, needs):
    if not 0 <= number <= LAST_NUMBER or not 0 <= prio <= LAST_PRIO or not 0 <= group <= LAST_GROUP:
        return OUT_OF_RANGE
    if not are_needs(needs):
        return BAD_ROW
    if number in queue.known:
        return NUMBER_TAKEN
    if not all([need in queue.known for need in needs]):
        return NO_SUCH_ITEM
    if count_unended(queue) >= MOST_UNENDED or len(queue.known) >= MOST_KNOWN:
        return TOO_MUCH
    return NO_REFUSAL


def are_needs(needs):
    if len(needs) > MOST_NEEDS or len(set(needs)) != len(needs):
        return False
    return all([0 <= need <= LAST_NUMBER for need in needs])


def order(queue):
    numbers = numbers_in_order(queue)
    return [len(numbers)] + numbers


def serve(queue, most):
    if not 1 <= most <= MOST_UNENDED:
        return [OUT_OF_RANGE]
    if queue.time >= MOST_TIME:
        return [TOO_MUCH]
    served = numbers_in_order(queue)[:most]
    count_passed(ready_items(queue), served)
    queue.waiting = [number for number in queue.waiting if number not in served]
    queue.running.extend(served)
    queue.time = queue.time + 1
    return [len(served)] + served


def count_passed(ready, served):
    """Of the ready items, given as they came, pass those that a served one came behind."""
    served_behind = False
    for item in reversed(ready):
        if item.number in served:
            served_behind = True
        elif served_behind:
            item.passed = item.passed + 1
