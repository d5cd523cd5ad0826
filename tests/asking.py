"""Helpers of the tests: write calls by name, and read their answers apart."""

from agingqueue.queue import answers
from agingqueue.queue import answer_next
from agingqueue.reading import Reader
from agingqueue.state import Queue

FAR = 10 ** 18
ALL = -1


def config(limit, day):
    return [0, limit, day]


def add(number, prio=0, group=0, needs=()):
    return [1, number, prio, group, len(needs), *needs]


def window(group, *hours):
    return [2, group, len(hours), *hours]


def freeze(group):
    return [3, group]


def thaw(group):
    return [4, group]


def tick(n):
    return [5, n]


def order():
    return [6]


def serve(k):
    return [7, k]


def outcome(number, ok):
    return [8, number, ok]


def again(number):
    return [9, number]


def withdraw(number):
    return [10, number]


def why(number):
    return [11, number]


def place(number):
    return [12, number]


def next_open(group):
    return [13, group]


def status():
    return [14]


def split(told):
    """The answers apart; fails where the counts don't fit."""
    apart = []
    place = 0
    while place < len(told):
        behind = place + 1 + told[place]
        if told[place] < 1 or behind > len(told):
            raise AssertionError("a wrong count in %r" % (told,))
        apart.append(told[place + 1:behind])
        place = behind
    return apart


def ask(*calls):
    """The answer of each of the calls, on one new queue."""
    apart = split(answers([number for call in calls for number in call]))
    if len(apart) != len(calls):
        raise AssertionError("%d calls, but %d answers" % (len(calls), len(apart)))
    return apart


def last(*calls):
    """The answer of the last of the calls."""
    return ask(*calls)[-1]


def tell(queue, call):
    """The answer of one call on a queue that is there already."""
    return answer_next(queue, Reader(call))


def queue_after(*calls):
    queue = Queue()
    for call in calls:
        tell(queue, call)
    return queue


def snapshot(queue):
    """All that the queue keeps, as values that don't change with it."""
    kept = dict(vars(queue))
    kept["known"] = [(number, vars(item)) for number, item in queue.known.items()]
    return repr(kept)


def queue_with_ended(count):
    """A queue on which so many items were added and landed, from number 0 on."""
    queue = Queue()
    for number in range(count):
        told = [tell(queue, call) for call in (add(number), serve(1), outcome(number, 1))]
        if told != [[1], [1, number], [number + 1]]:
            raise AssertionError("item %d was not added, served and landed" % number)
    return queue
