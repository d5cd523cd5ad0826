"""Long lists of calls, drawn from a fixed seed, answered alike by the program and by the model."""

import random
import unittest

import asking
from model import Model


def near(draw, low, high, wrong=0.04):
    """Mostly a number of the range; now and then one just outside or far off."""
    if draw.random() < wrong:
        return draw.choice((low - 1, high + 1, -asking.FAR, asking.FAR))
    return draw.randint(low, high)


def drawn_add(draw, numbers):
    number = near(draw, 0, numbers)
    amount = draw.choice((0, 0, 0, 0, 0, 0, 0, 0, 1, 2, 6, 7, 20))
    needs = [near(draw, 0, numbers) for place in range(amount)]
    return ("add", number, near(draw, 0, 9), near(draw, 0, 7), needs)


def drawn_window(draw, day):
    hours = []
    for pair in range(draw.choice((0, 0, 1, 1, 1, 2, 3, 4, 5))):
        first = near(draw, 0, day - 1)
        hours += [first, near(draw, first + 1, day)] if first < day else [first, day]
    if draw.random() < 0.05:
        hours.append(1)
    return ("window", near(draw, 0, 7), hours)


def drawn_call(draw, numbers, day, name):
    if name == "config":
        return (name, near(draw, 0, 20), near(draw, 1, 24))
    if name == "add":
        return drawn_add(draw, numbers)
    if name == "window":
        return drawn_window(draw, day)
    if name in ("freeze", "thaw"):
        return (name, near(draw, -1, 7))
    if name == "tick":
        return (name, near(draw, 0, draw.choice((2, 30, 1000))))
    if name == "serve":
        return (name, near(draw, 1, draw.choice((1, 2, 5, 40))))
    return (name,)


def written(call):
    """The call as it stands in the list."""
    if call[0] == "window":
        return asking.window(call[1], *call[2])
    return getattr(asking, call[0])(*call[1:])


def drawn_line(seed):
    draw = random.Random(seed)
    numbers = draw.choice((20, 60, 999))
    limit, day = draw.randint(0, 4), draw.randint(1, 24)
    weights = {"config": 1, "add": 40, "window": draw.choice((0, 3)), "freeze": draw.choice((0, 2)), "thaw": 6,
               "tick": 6, "order": 20, "serve": draw.choice((5, 20))}
    names = draw.choices(list(weights), weights=list(weights.values()), k=draw.choice((10, 100, 398)))
    return [("config", limit, day)] + [drawn_call(draw, numbers, day, name) for name in names] + [("order",)]


class ModelTest(unittest.TestCase):
    def test_answers_alike(self):
        for seed in range(300):
            line = drawn_line(seed)
            model = Model()
            told = [getattr(model, call[0])(*call[1:]) for call in line]
            with self.subTest(seed=seed):
                self.assertEqual(asking.ask(*[written(call) for call in line]), told)


if __name__ == "__main__":
    unittest.main()
