"""Which items are ready, and in which order they are to go."""

from agingqueue.state import EVERYTHING, LANDED


def is_frozen(queue, group):
    return queue.frozen.get(group, False) or queue.frozen.get(EVERYTHING, False)


def is_within_hours(queue, group, time):
    pairs = queue.windows.get(group, [])
    hour = time % queue.day
    return len(pairs) == 0 or any([pair[0] <= hour < pair[1] for pair in pairs])


def has_landed(queue, number):
    return queue.ended.get(number) == LANDED


def is_ready(queue, item):
    if is_frozen(queue, item.group) or not is_within_hours(queue, item.group, queue.time):
        return False
    return all([has_landed(queue, need) for need in item.needs])


def ready_items(queue):
    """The ready items, as they came."""
    items = [queue.known[number] for number in queue.waiting]
    return [item for item in items if is_ready(queue, item)]


def lower_for_greater_prio(item):
    return -item.prio


def in_order(items, limit):
    """Items, given as they came, in the order in which they are to go."""
    overdue = [item for item in items if item.passed >= limit]
    others = [item for item in items if item.passed < limit]
    # sorted leaves items of the same priority as they came.
    return overdue + sorted(others, key=lower_for_greater_prio)


def numbers_in_order(queue):
    return [item.number for item in in_order(ready_items(queue), queue.limit)]
