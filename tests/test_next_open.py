"""Promise 11."""

import unittest

from asking import (ALL, FAR, add, ask, config, freeze, last, next_open, order, queue_after, serve, snapshot, status,
                    tell, tick, why, window)
from agingqueue.state import Queue


def waits(day, *hours):
    """What is answered at each hour of two days, of a class with these windows."""
    calls = [config(3, day), window(4, *hours)] + [call for hour in range(2 * day) for call in (next_open(4), tick(1))]
    return [answer[0] for answer in ask(*calls)[2::2]]


class NextOpenTest(unittest.TestCase):
    def test_no_windows(self):
        self.assertEqual(ask(*[next_open(group) for group in range(8)]), [[0]] * 8)
        self.assertEqual(waits(6), [0] * 12)

    def test_one_window(self):
        self.assertEqual(waits(6, 2, 4), [2, 1, 0, 0, 4, 3] * 2)

    def test_window_at_the_days_beginning(self):
        self.assertEqual(waits(6, 0, 1), [0, 5, 4, 3, 2, 1] * 2)
        self.assertEqual(waits(6, 0, 5), [0, 0, 0, 0, 0, 1] * 2)

    def test_window_at_the_days_end(self):
        self.assertEqual(waits(6, 5, 6), [5, 4, 3, 2, 1, 0] * 2)
        self.assertEqual(waits(6, 1, 6), [1, 0, 0, 0, 0, 0] * 2)

    def test_several_windows(self):
        self.assertEqual(waits(10, 2, 4, 6, 7), [2, 1, 0, 0, 2, 1, 0, 5, 4, 3] * 2)

    def test_windows_in_any_order(self):
        self.assertEqual(waits(10, 6, 7, 2, 4), [2, 1, 0, 0, 2, 1, 0, 5, 4, 3] * 2)

    def test_windows_that_touch_or_overlap(self):
        self.assertEqual(waits(8, 2, 4, 4, 5), [2, 1, 0, 0, 0, 5, 4, 3] * 2)
        self.assertEqual(waits(8, 3, 6, 2, 5, 3, 4), [2, 1, 0, 0, 0, 0, 4, 3] * 2)

    def test_four_windows(self):
        self.assertEqual(waits(9, 7, 8, 5, 6, 3, 4, 1, 2), [1, 0, 1, 0, 1, 0, 1, 0, 2] * 2)

    def test_whole_day(self):
        self.assertEqual(waits(24, 0, 24), [0] * 48)
        self.assertEqual(waits(24, 0, 12, 12, 24), [0] * 48)

    def test_day_of_one_hour(self):
        self.assertEqual(waits(1, 0, 1), [0, 0])
        self.assertEqual(waits(1), [0, 0])

    def test_day_of_two_hours(self):
        self.assertEqual(waits(2, 0, 1), [0, 1, 0, 1])
        self.assertEqual(waits(2, 1, 2), [1, 0, 1, 0])

    def test_day_of_24_hours(self):
        self.assertEqual(waits(24, 0, 1), [0] + list(range(23, 0, -1)) + [0] + list(range(23, 0, -1)))
        self.assertEqual(waits(24, 23, 24), list(range(23, -1, -1)) * 2)

    def test_day_at_the_beginning(self):
        self.assertEqual(ask(window(0, 0, 1), tick(1), next_open(0))[2:], [[23]])

    def test_edges_of_the_class(self):
        for group, answer in ((-1, -1), (0, 0), (7, 0), (8, -1), (-2, -1), (-FAR, -1), (FAR, -1)):
            with self.subTest(group=group):
                self.assertEqual(ask(next_open(group)), [[answer]])

    def test_of_that_class_alone(self):
        windows = [window(group, group + 1, group + 2) for group in range(7)]
        self.assertEqual(ask(*windows, *[next_open(group) for group in range(8)])[7:],
                         [[1], [2], [3], [4], [5], [6], [7], [0]])

    def test_of_windows_in_place_of_others(self):
        self.assertEqual(last(window(2, 3, 4), window(2, 5, 6), next_open(2)), [5])
        self.assertEqual(last(window(2, 3, 4), window(2), next_open(2)), [0])
        self.assertEqual(last(window(2, 3, 4), window(2, 6, 5), next_open(2)), [3])

    def test_config_takes_the_windows(self):
        self.assertEqual(last(window(2, 3, 4), config(3, 2), next_open(2)), [0])

    def test_a_frozen_class_is_open_all_the_same(self):
        self.assertEqual(ask(freeze(2), freeze(ALL), next_open(2), window(2, 3, 4), next_open(2))[2::2], [[0], [3]])

    def test_time_goes_on_when_items_are_served(self):
        self.assertEqual(ask(window(2, 3, 4), serve(1), next_open(2), serve(1), next_open(2))[2::2], [[2], [1]])

    def test_an_item_is_ready_then_and_not_before(self):
        calls = (tick(21), window(2, 3, 4, 9, 11), add(1, 0, 2), next_open(2), tick(5), why(1), tick(1), why(1),
                 order())
        self.assertEqual(ask(*calls)[3:], [[6], [26], [3], [27], [1, 0], [1, 1]])

    def test_late(self):
        queue = Queue()
        queue.time = 1000000
        self.assertEqual(1000000 % 24, 16)
        tell(queue, window(2, 15, 16))
        tell(queue, window(3, 16, 17))
        tell(queue, window(4, 17, 18))
        self.assertEqual([tell(queue, next_open(group)) for group in (1, 2, 3, 4)], [[0], [23], [0], [1]])

    def test_asking_changes_nothing(self):
        queue = queue_after(tick(7), window(2, 3, 4), add(1, 0, 2), freeze(3))
        before = snapshot(queue)
        for group in (-1, 0, 2, 3, 7, 8, -FAR, FAR):
            tell(queue, next_open(group))
            self.assertEqual(snapshot(queue), before)
        self.assertEqual(tell(queue, status()), [3, 24, 7, 1, 0, 0, 0])


if __name__ == "__main__":
    unittest.main()
