"""The document's words put down once more, in another way than the program, to compare with.

Nothing is kept here but a log of what happened: each item is a plain dict, and what is
asked is found by looking at all of them.
"""


def within(number, low, high):
    return number in range(low, high + 1)


class Model:
    def __init__(self):
        self.limit, self.day, self.time, self.came = 3, 24, 0, 0
        self.windows = [[] for group in range(8)]
        self.frozen_groups, self.frozen_all = set(), False
        self.items = []

    def standing(self, *states):
        return [item for item in self.items if item["state"] in states]

    def landed(self):
        return {item["number"] for item in self.standing("landed")}

    def ready(self):
        hour = self.time - self.time // self.day * self.day
        found = []
        for item in self.standing("waits"):
            hours = {h for first, behind in self.windows[item["group"]] for h in range(first, behind)}
            if self.frozen_all or item["group"] in self.frozen_groups:
                continue
            if self.windows[item["group"]] and hour not in hours:
                continue
            if set(item["needs"]) <= self.landed():
                found.append(item)
        return found

    def ordered(self):
        def rank(item):
            if item["passed"] >= self.limit:
                return (0, 0, item["came"])
            return (1, 9 - item["prio"], item["came"])
        return sorted(self.ready(), key=rank)

    def config(self, limit, day):
        if not (within(limit, 0, 20) and within(day, 1, 24)):
            return [-1]
        if self.standing("waits", "runs"):
            return [-8]
        self.limit, self.day, self.windows = limit, day, [[] for group in range(8)]
        return [0]

    def add(self, number, prio, group, needs):
        numbers = [item["number"] for item in self.items]
        if not (within(number, 0, 999) and within(prio, 0, 9) and within(group, 0, 7)):
            return [-1]
        if len(needs) > 6 or any(not within(n, 0, 999) or needs.count(n) > 1 for n in needs):
            return [-2]
        if number in numbers:
            return [-9]
        if set(needs) - set(numbers):
            return [-6]
        if len(self.standing("waits", "runs")) == 40 or len(numbers) == 400:
            return [-7]
        self.came += 1
        self.items.append({"number": number, "prio": prio, "group": group, "needs": list(needs), "passed": 0,
                           "state": "waits", "came": self.came})
        return [len(self.standing("waits"))]

    def window(self, group, hours):
        if not within(group, 0, 7):
            return [-1]
        if len(hours) not in (0, 2, 4, 6, 8):
            return [-2]
        pairs = list(zip(hours[::2], hours[1::2]))
        if any(first not in range(self.day) or behind not in range(first + 1, self.day + 1) for first, behind in pairs):
            return [-2]
        self.windows[group] = pairs
        return [len(pairs)]

    def freeze(self, group):
        if not within(group, -1, 7):
            return [-1]
        if group == -1:
            self.frozen_all = True
        else:
            self.frozen_groups.add(group)
        return [0]

    def thaw(self, group):
        if not within(group, -1, 7):
            return [-1]
        if group == -1:
            self.frozen_all = False
        else:
            self.frozen_groups.discard(group)
        return [0]

    def tick(self, n):
        if not within(n, 0, 1000):
            return [-1]
        if n > 1000000 - self.time:
            return [-7]
        self.time += n
        return [self.time]

    def order(self):
        numbers = [item["number"] for item in self.ordered()]
        return [len(numbers), *numbers]

    def serve(self, k):
        if not within(k, 1, 40):
            return [-1]
        if self.time == 1000000:
            return [-7]
        served, left = self.ordered()[:k], self.ordered()[k:]
        for item in left:
            if any(item["came"] < other["came"] for other in served):
                item["passed"] += 1
        for item in served:
            item["state"] = "runs"
        self.time += 1
        return [len(served), *[item["number"] for item in served]]
