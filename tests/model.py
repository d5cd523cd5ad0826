"""The document's words put down once more, in another way than the program, to compare with.

Nothing is kept here but a log of what happened: each item is a plain dict, and what is
asked is found by looking at all of them.
"""


def within(number, low, high):
    return number in range(low, high + 1)


class Model:
    def __init__(self):
        self.limit, self.day, self.time = 3, 24, 0
        self.came, self.came_back = 0, 0
        self.windows = [[] for group in range(8)]
        self.frozen_groups, self.frozen_all = set(), False
        self.items = []

    def standing(self, *states):
        return [item for item in self.items if item["state"] in states]

    def item(self, number, *states):
        for item in self.standing(*states):
            if item["number"] == number:
                return item
        return None

    def landed(self):
        return {item["number"] for item in self.standing("landed")}

    def hours(self, group):
        if not self.windows[group]:
            return set(range(self.day))
        return {hour for first, behind in self.windows[group] for hour in range(first, behind)}

    def hour(self):
        return self.time - self.time // self.day * self.day

    def frozen(self, group):
        return self.frozen_all or group in self.frozen_groups

    def ready(self):
        found = []
        for item in self.standing("waits"):
            if self.frozen(item["group"]) or self.hour() not in self.hours(item["group"]):
                continue
            if set(item["needs"]) <= self.landed():
                found.append(item)
        return found

    def ordered(self):
        def rank(item):
            if item["passed"] >= self.limit:
                return (0, 0, item["came"])
            return (1, 9 - item["prio"], item["came"])
        return sorted(self.ready(), key=rank)

    def config(self, limit, day):
        if not (within(limit, 0, 20) and within(day, 1, 24)):
            return [-1]
        if self.standing("waits", "runs"):
            return [-8]
        self.limit, self.day, self.windows = limit, day, [[] for group in range(8)]
        return [0]

    def add(self, number, prio, group, needs):
        numbers = [item["number"] for item in self.items]
        if not (within(number, 0, 999) and within(prio, 0, 9) and within(group, 0, 7)):
            return [-1]
        if len(needs) > 6 or any(not within(n, 0, 999) or needs.count(n) > 1 for n in needs):
            return [-2]
        if number in numbers:
            return [-9]
        if set(needs) - set(numbers):
            return [-6]
        if len(self.standing("waits", "runs")) == 40 or len(numbers) == 400:
            return [-7]
        self.came += 1
        self.items.append({"number": number, "prio": prio, "group": group, "needs": list(needs), "passed": 0,
                           "state": "waits", "came": self.came})
        return [len(self.standing("waits"))]

    def window(self, group, hours):
        if not within(group, 0, 7):
            return [-1]
        if len(hours) not in (0, 2, 4, 6, 8):
            return [-2]
        pairs = list(zip(hours[::2], hours[1::2]))
        if any(first not in range(self.day) or behind not in range(first + 1, self.day + 1) for first, behind in pairs):
            return [-2]
        self.windows[group] = pairs
        return [len(pairs)]

    def freeze(self, group):
        if not within(group, -1, 7):
            return [-1]
        if group == -1:
            self.frozen_all = True
        else:
            self.frozen_groups.add(group)
        return [0]

    def thaw(self, group):
        if not within(group, -1, 7):
            return [-1]
        if group == -1:
            self.frozen_all = False
        else:
            self.frozen_groups.discard(group)
        return [0]

    def tick(self, n):
        if not within(n, 0, 1000):
            return [-1]
        if n > 1000000 - self.time:
            return [-7]
        self.time += n
        return [self.time]

    def order(self):
        numbers = [item["number"] for item in self.ordered()]
        return [len(numbers), *numbers]

    def serve(self, k):
        if not within(k, 1, 40):
            return [-1]
        if self.time == 1000000:
            return [-7]
        served, left = self.ordered()[:k], self.ordered()[k:]
        for item in left:
            if any(item["came"] < other["came"] for other in served):
                item["passed"] += 1
        for item in served:
            item["state"] = "runs"
        self.time += 1
        return [len(served), *[item["number"] for item in served]]

    def outcome(self, number, ok):
        if not within(ok, 0, 1):
            return [-1]
        item = self.item(number, "runs")
        if item is None:
            return [-6]
        item["state"] = ("rejected", "landed")[ok]
        return [len(self.standing("landed", "rejected", "withdrawn"))]

    def again(self, number):
        item = self.item(number, "runs")
        if item is None:
            return [-6]
        self.came_back -= 1
        item["state"], item["came"] = "waits", self.came_back
        return [len(self.standing("waits"))]

    def withdraw(self, number):
        item = self.item(number, "waits")
        if item is None:
            return [-6]
        item["state"] = "withdrawn"
        return [len(self.standing("waits"))]

    def why(self, number):
        item = self.item(number, "waits")
        if item is None:
            for state, told in (("runs", 6), ("landed", 7), ("rejected", 8), ("withdrawn", 9)):
                if self.item(number, state):
                    return [told]
            return [-6]
        for told, states in ((5, ("rejected", "withdrawn")), (4, ("waits", "runs"))):
            needs = [need for need in item["needs"] if self.item(need, *states)]
            if needs:
                return [told, len(needs), *needs]
        if self.frozen(item["group"]):
            return [2]
        if self.hour() not in self.hours(item["group"]):
            return [3]
        return [1, item["passed"]]

    def place(self, number):
        for before, item in enumerate(self.ordered()):
            if item["number"] == number:
                return [before]
        return [-6]

    def next_open(self, group):
        if not within(group, 0, 7):
            return [-1]
        return [min((hour - self.hour()) % self.day for hour in self.hours(group))]

    def status(self):
        counts = [len(self.standing(state)) for state in ("waits", "runs", "landed")]
        return [self.limit, self.day, self.time, *counts, len(self.standing("rejected", "withdrawn"))]
