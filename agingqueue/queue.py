"""The calls on a queue, and what they answer."""

from agingqueue.handling import add, order, serve
from agingqueue.reading import Reader
from agingqueue.settings import config, freeze, thaw, tick, window
from agingqueue.state import Queue

CONFIG = 0
ADD = 1
WINDOW = 2
FREEZE = 3
THAW = 4
TICK = 5
ORDER = 6
SERVE = 7


class UnknownCall(ValueError):
    """A number stands where a call begins, and no call has it."""


def answers(calls):
    queue = Queue()
    reader = Reader(calls)
    told = []
    while not reader.is_done():
        answer = answer_next(queue, reader)
        told.append(len(answer))
        told.extend(answer)
    return told


def answer_next(queue, reader):
    call = reader.take()
    if call == CONFIG:
        numbers = reader.take_several(2)
        return config(queue, numbers[0], numbers[1])
    if call == ADD:
        numbers = reader.take_several(3)
        return add(queue, numbers[0], numbers[1], numbers[2], reader.take_row())
    if call == WINDOW:
        group = reader.take()
        return window(queue, group, reader.take_row())
    if call == FREEZE:
        return freeze(queue, reader.take())
    if call == THAW:
        return thaw(queue, reader.take())
    if call == TICK:
        return tick(queue, reader.take())
    if call == ORDER:
        return order(queue)
    if call == SERVE:
        return serve(queue, reader.take())
    raise UnknownCall(f"no such call: {call}")
