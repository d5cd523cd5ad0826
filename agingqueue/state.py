"""What a queue keeps from one call to the next."""

# Stands where a group stands, and so must not be the number of one.
EVERYTHING = -1
LAST_GROUP = 7
MOST_TIME = 1000000

# How an item ended, told by the number that why answers then.
LANDED = 7
REJECTED = 8
WITHDRAWN = 9


class Item:
    """What is told of an item when it is added, and how often it was passed."""

    def __init__(self, number, prio, group, needs):
        self.number = number
        self.prio = prio
        self.group = group
        self.needs = needs
        self.passed = 0


class Queue:
    """The settings, the time and the items.

    known: each item that there is or was, by its number.
    waiting: the numbers of the items that wait, as they came.
    running: the numbers of the items that run, as they were served.
    ended: how each item that ended did so, by its number.
    windows: pairs of a first hour and the hour behind the last, by group.
    frozen: True for a group that is frozen by itself, and for EVERYTHING.
    """

    def __init__(self):
        self.limit = 3
        self.day = 24
        self.time = 0
        self.windows = {}
        self.frozen = {}
        self.known = {}
        self.waiting = []
        self.running = []
        self.ended = {}


def count_unended(queue):
    return len(queue.waiting) + len(queue.running)
