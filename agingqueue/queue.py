"""The calls on a queue, and what they answer."""

from agingqueue.ending import again, outcome, withdraw
from agingqueue.handling import add, order, serve
from agingqueue.reading import Reader
from agingqueue.settings import config, freeze, thaw, tick, window
from agingqueue.state import Queue
from agingqueue.telling import next_open, place, status, why

CONFIG = 0
ADD = 1
WINDOW = 2
FREEZE = 3
THAW = 4
TICK = 5
ORDER = 6
SERVE = 7
OUTCOME = 8
AGAIN = 9
WITHDRAW = 10
WHY = 11
PLACE = 12
NEXT_OPEN = 13
STATUS = 14


class UnknownCall(ValueError):
    """A number stands where a call begins, and no call has it."""


def answers(calls):
    queue = Queue()
    reader = Reader(calls)
    told = []
    while not reader.is_done():
        answer = answer_next(queue, reader)
        told.append(len(answer))
        told.extend(answer)
    return told


def answer_next(queue, reader):
    call = reader.take()
    if call == CONFIG:
        numbers = reader.take_several(2)
        return config(queue, numbers[0], numbers[1])
    if call == ADD:
        numbers = reader.take_several(3)
        return add(queue, numbers[0], numbers[1], numbers[2], reader.take_row())
    if call == WINDOW:
        group = reader.take()
        return window(queue, group, reader.take_row())
    if call == OUTCOME:
        numbers = reader.take_several(2)
        return outcome(queue, numbers[0], numbers[1])
    if call == ORDER:
        return order(queue)
    if call == STATUS:
        return status(queue)
    return answer_with_one_number(queue, call, reader)


def answer_with_one_number(queue, call, reader):
    if call == FREEZE:
        return freeze(queue, reader.take())
    if call == THAW:
        return thaw(queue, reader.take())
    if call == TICK:
        return tick(queue, reader.take())
    if call == SERVE:
        return serve(queue, reader.take())
    if call == AGAIN:
        return again(queue, reader.take())
    if call == WITHDRAW:
        return withdraw(queue, reader.take())
    if call == WHY:
        return why(queue, reader.take())
    if call == PLACE:
        return place(queue, reader.take())
    if call == NEXT_OPEN:
        return next_open(queue, reader.take())
    raise UnknownCall(f"no such call: {call}")
