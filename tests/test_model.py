"""Long lists of calls, drawn from a fixed seed, answered alike by the program and by the model."""

import collections
import random
import unittest

import asking
from model import Model

SEEDS = 400


def near(draw, low, high, wrong=0.04):
    """Mostly a number of the range; now and then one just outside or far off."""
    if draw.random() < wrong:
        return draw.choice((low - 1, high + 1, -asking.FAR, asking.FAR))
    return draw.randint(low, high)


def drawn_item(draw, model, *states):
    """Mostly the number of an item in one of these states, if there is one."""
    there = [item["number"] for item in model.standing(*states)]
    if there and draw.random() < 0.85:
        return draw.choice(there)
    return near(draw, 0, 60)


def drawn_add(draw, model, numbers):
    amount = draw.choice((0, 0, 0, 0, 0, 0, 1, 1, 2, 3, 6, 7, 20))
    needs = [drawn_item(draw, model, "waits", "runs", "landed", "rejected", "withdrawn") for place in range(amount)]
    if draw.random() < 0.9:
        needs = list(dict.fromkeys(needs))
    return ("add", near(draw, 0, numbers), near(draw, 0, 9), near(draw, 0, 7), needs)


def drawn_window(draw, day):
    hours = []
    for pair in range(draw.choice((0, 0, 1, 1, 1, 2, 3, 4, 5))):
        first = near(draw, 0, day - 1)
        hours += [first, near(draw, first + 1, day)] if first < day else [first, day]
    if draw.random() < 0.05:
        hours.append(1)
    return ("window", near(draw, 0, 7), hours)


def drawn_call(draw, model, numbers, name):
    if name == "config":
        return (name, near(draw, 0, 20), near(draw, 1, 24))
    if name == "add":
        return drawn_add(draw, model, numbers)
    if name == "window":
        return drawn_window(draw, model.day)
    if name in ("freeze", "thaw"):
        return (name, near(draw, -1, 7))
    if name == "tick":
        return (name, near(draw, 0, draw.choice((2, 30, 1000))))
    if name == "serve":
        return (name, near(draw, 1, draw.choice((1, 2, 5, 40))))
    if name == "outcome":
        return (name, drawn_item(draw, model, "runs"), near(draw, 0, 1))
    if name == "again":
        return (name, drawn_item(draw, model, "runs"))
    if name in ("withdraw", "place"):
        return (name, drawn_item(draw, model, "waits"))
    if name == "why":
        return (name, drawn_item(draw, model, *draw.choice((("waits",), ("runs", "landed", "rejected", "withdrawn")))))
    if name == "next_open":
        return (name, near(draw, 0, 7))
    return (name,)


def written(call):
    """The call as it stands in the list."""
    if call[0] == "window":
        return asking.window(call[1], *call[2])
    return getattr(asking, call[0])(*call[1:])


def drawn_names(draw):
    weights = {"config": 1, "add": 40, "window": draw.choice((0, 3)), "freeze": draw.choice((0, 2)), "thaw": 6,
               "tick": 6, "order": 10, "serve": draw.choice((5, 20)), "outcome": draw.choice((5, 30)),
               "again": draw.choice((0, 15)), "withdraw": draw.choice((1, 8)), "why": 30, "place": 10, "next_open": 8,
               "status": 5}
    return draw.choices(list(weights), weights=list(weights.values()), k=draw.choice((10, 100, 397)))


def drawn_line(seed):
    """Calls and what the model answers: it is asked as they are drawn, so that they fit what waits and runs."""
    draw = random.Random(seed)
    numbers = draw.choice((20, 60, 999, 999))
    model = Model()
    first = ("config", draw.randint(0, 4), draw.randint(1, 24))
    line, told = [first], [model.config(*first[1:])]
    for name in drawn_names(draw) + ["order", "status"]:
        call = drawn_call(draw, model, numbers, name)
        line.append(call)
        told.append(getattr(model, name)(*call[1:]))
    return line, told


class ModelTest(unittest.TestCase):
    def test_answers_alike(self):
        for seed in range(SEEDS):
            line, told = drawn_line(seed)
            with self.subTest(seed=seed):
                self.assertEqual(asking.ask(*[written(call) for call in line]), told)

    def test_what_is_drawn_shows_each_kind_of_answer(self):
        kinds = collections.Counter()
        for seed in range(SEEDS):
            for call, answer in zip(*drawn_line(seed)):
                kinds[call[0], answer[0] if answer[0] < 0 or call[0] == "why" else "taken"] += 1
        refusals = {"config": (-1, -8), "add": (-1, -2, -9, -6, -7), "window": (-1, -2), "freeze": (-1,),
                    "thaw": (-1,), "tick": (-1,), "order": (), "serve": (-1,), "outcome": (-1, -6), "again": (-6,),
                    "withdraw": (-6,), "why": (-6, 2, 3, 4, 5, 6, 7, 8, 9), "place": (-6,), "next_open": (-1,),
                    "status": ()}
        for name, told in refusals.items():
            for kind in (*told, 1 if name == "why" else "taken"):
                self.assertGreater(kinds[name, kind], 10, (name, kind))


if __name__ == "__main__":
    unittest.main()
