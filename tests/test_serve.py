"""Promise 7, and who was passed."""

import unittest

from asking import (ALL, FAR, add, ask, config, freeze, last, order, queue_after, serve, snapshot, tell, thaw, tick,
                    window)


def passed(*calls):
    """How often each item was passed, by number, behind these calls."""
    queue = queue_after(*calls)
    return {number: item.passed for number, item in queue.known.items()}


class ServeTest(unittest.TestCase):
    def test_fewer_than_are_ready(self):
        calls = (add(1, 3), add(2, 5), add(3, 4), serve(2), order())
        self.assertEqual(ask(*calls)[3:], [[2, 2, 3], [1, 1]])

    def test_just_as_many(self):
        self.assertEqual(ask(add(1, 3), add(2, 5), add(3, 4), serve(3), order())[3:], [[3, 2, 3, 1], [0]])

    def test_more(self):
        self.assertEqual(ask(add(1, 3), add(2, 5), add(3, 4), serve(4), order())[3:], [[3, 2, 3, 1], [0]])
        self.assertEqual(ask(add(1, 3), add(2, 5), add(3, 4), serve(40), order())[3:], [[3, 2, 3, 1], [0]])

    def test_none_ready(self):
        self.assertEqual(ask(serve(1), tick(0)), [[0], [1]])
        self.assertEqual(ask(add(1), freeze(ALL), serve(5), thaw(ALL), order())[2:], [[0], [0], [1, 1]])

    def test_forty(self):
        forty = [add(number) for number in range(40)]
        self.assertEqual(last(*forty, serve(40)), [40] + list(range(40)))
        self.assertEqual(ask(*forty, serve(39), serve(40))[-2:], [[39] + list(range(39)), [1, 39]])

    def test_edges(self):
        for k, answer in ((-1, -1), (0, -1), (1, 0), (40, 0), (41, -1), (-FAR, -1), (FAR, -1)):
            with self.subTest(k=k):
                self.assertEqual(ask(serve(k)), [[answer]])

    def test_served_items_are_not_served_again(self):
        self.assertEqual(ask(add(1), add(2), serve(1), serve(2), serve(2))[2:], [[1, 1], [1, 2], [0]])

    def test_time_goes_on_by_one(self):
        self.assertEqual(ask(add(1), add(2), serve(2), tick(0), serve(1), tick(0))[3::2], [[1], [2]])
        self.assertEqual(ask(tick(10), add(1), serve(1), tick(0))[-1], [11])

    def test_windows_are_looked_at_before_the_time_goes_on(self):
        calls = (window(0, 0, 1), window(1, 1, 2), add(1, 0, 0), add(2, 9, 1), serve(2), serve(2))
        self.assertEqual(ask(*calls)[4:], [[1, 1], [1, 2]])

    def test_run_in_order_behind_those_that_run(self):
        queue = queue_after(add(1, 3), add(2, 5), serve(2), add(3, 1), add(4, 2), add(5, 0), serve(2))
        self.assertEqual(queue.running, [2, 1, 4, 3])
        self.assertEqual(queue.waiting, [5])

    def test_at_a_million(self):
        queue = queue_after(add(1))
        queue.time = 999999
        self.assertEqual(tell(queue, serve(1)), [1, 1])
        self.assertEqual(tell(queue, tick(0)), [1000000])
        tell(queue, add(2))
        before = snapshot(queue)
        self.assertEqual(tell(queue, serve(1)), [-7])
        self.assertEqual(tell(queue, serve(0)), [-1])
        self.assertEqual(tell(queue, serve(41)), [-1])
        self.assertEqual(snapshot(queue), before)

    def test_at_a_million_with_none_ready(self):
        queue = queue_after(tick(0))
        queue.time = 1000000
        self.assertEqual(tell(queue, serve(1)), [-7])

    def test_refusals_change_nothing(self):
        for k in (-1, 0, 41, -FAR, FAR):
            with self.subTest(k=k):
                calls = [config(1, 24), add(1, 0), add(2, 9), serve(k), order(), tick(0)]
                self.assertEqual(ask(*calls)[3:], [[-1], [2, 2, 1], [0]])


class PassedTest(unittest.TestCase):
    def test_who_came_before_one_that_was_served(self):
        items = (add(1, 1), add(2, 5), add(3, 2), add(4, 4), add(5, 3))
        self.assertEqual(passed(*items, serve(1)), {1: 1, 2: 0, 3: 0, 4: 0, 5: 0})
        self.assertEqual(passed(*items, serve(2)), {1: 1, 2: 0, 3: 1, 4: 0, 5: 0})
        self.assertEqual(passed(*items, serve(3)), {1: 1, 2: 0, 3: 1, 4: 0, 5: 0})
        self.assertEqual(passed(*items, serve(5)), {1: 0, 2: 0, 3: 0, 4: 0, 5: 0})

    def test_once_a_call_however_many_are_served(self):
        items = (add(1, 0), add(2, 9), add(3, 8), add(4, 7))
        self.assertEqual(passed(*items, serve(3)), {1: 1, 2: 0, 3: 0, 4: 0})

    def test_once_more_each_call(self):
        items = (add(1, 0), add(2, 9), add(3, 8), add(4, 7))
        self.assertEqual(passed(*items, serve(1), serve(1), serve(1)), {1: 3, 2: 0, 3: 0, 4: 0})

    def test_an_item_that_came_first_passes_nobody(self):
        self.assertEqual(passed(add(1, 9), add(2, 0), add(3, 0), serve(1)), {1: 0, 2: 0, 3: 0})

    def test_same_priority_passes_nobody(self):
        self.assertEqual(passed(add(1), add(2), add(3), serve(1), serve(1)), {1: 0, 2: 0, 3: 0})

    def test_only_who_was_ready(self):
        items = (add(1, 0, 1), add(2, 0, 2), add(3, 0, 3), add(4, 0, 3, [3]), add(5, 9, 4))
        calls = (*items, freeze(1), window(2, 5, 6), serve(1))
        self.assertEqual(passed(*calls), {1: 0, 2: 0, 3: 1, 4: 0, 5: 0})
        self.assertEqual(passed(*items, freeze(ALL), serve(1)), {1: 0, 2: 0, 3: 0, 4: 0, 5: 0})

    def test_items_that_run_are_not_passed(self):
        self.assertEqual(passed(add(1, 0), serve(1), add(2, 0), add(3, 9), serve(1)), {1: 0, 2: 1, 3: 0})

    def test_none_is_passed_more_often_than_the_limit(self):
        for limit in (0, 1, 3):
            calls = [config(limit, 24), add(1, 0), add(2, 0)]
            for number in range(100, 110):
                calls += [add(number, 9), serve(1)]
            with self.subTest(limit=limit):
                self.assertEqual(passed(*calls)[1], limit)
                self.assertEqual(passed(*calls)[2], limit)

    def test_those_passed_often_are_served_as_they_came(self):
        calls = [config(1, 24), add(1, 0), add(2, 5), add(3, 9), serve(1), add(4, 9), serve(1), serve(1), serve(1)]
        self.assertEqual([answer for answer in ask(*calls) if len(answer) == 2], [[1, 3], [1, 1], [1, 2], [1, 4]])


if __name__ == "__main__":
    unittest.main()
