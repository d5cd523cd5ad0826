"""Promise 1, and what holds at a list's beginning."""

import unittest

from asking import FAR, add, again, ask, config, freeze, last, order, outcome, serve, status, tick, window, withdraw


def passes_needed(*first_calls):
    """How many times item 1 is passed before it goes ahead of greater priorities."""
    calls = list(first_calls) + [add(1, 0)]
    for number in range(100, 130):
        calls += [add(number, 9), serve(1)]
    served = [answer for answer in ask(*calls) if len(answer) == 2]
    return served.index([1, 1])


class ConfigTest(unittest.TestCase):
    def test_answers_zero(self):
        self.assertEqual(ask(config(5, 10)), [[0]])

    def test_edges_of_the_limit(self):
        for limit, answer in ((-1, -1), (0, 0), (20, 0), (21, -1), (-FAR, -1), (FAR, -1)):
            with self.subTest(limit=limit):
                self.assertEqual(ask(config(limit, 24)), [[answer]])

    def test_edges_of_the_day(self):
        for day, answer in ((-1, -1), (0, -1), (1, 0), (24, 0), (25, -1), (-FAR, -1), (FAR, -1)):
            with self.subTest(day=day):
                self.assertEqual(ask(config(3, day)), [[answer]])

    def test_limit_is_three_at_the_beginning(self):
        self.assertEqual(passes_needed(), 3)

    def test_limit_is_what_was_told(self):
        for limit in (0, 1, 2, 3, 4, 19, 20):
            with self.subTest(limit=limit):
                self.assertEqual(passes_needed(config(limit, 24)), limit)

    def test_the_last_config_holds(self):
        self.assertEqual(passes_needed(config(7, 24), config(2, 24)), 2)

    def test_day_has_24_hours_at_the_beginning(self):
        self.assertEqual(ask(window(0, 23, 24), window(0, 24, 25)), [[1], [-2]])
        calls = (window(0, 0, 1), add(1), tick(23), order(), tick(1), order())
        self.assertEqual(ask(*calls), [[1], [1], [23], [0], [24], [1, 1]])

    def test_day_of_one_hour(self):
        calls = (config(3, 1), window(0, 0, 1), window(0, 0, 2), add(1), order(), tick(1), order(), tick(7), order())
        self.assertEqual(ask(*calls), [[0], [1], [-2], [1], [1, 1], [1], [1, 1], [8], [1, 1]])

    def test_day_of_five_hours(self):
        calls = (config(3, 5), window(0, 4, 5), add(1), order(), tick(4), order(), tick(1), order(), tick(4), order())
        self.assertEqual(ask(*calls), [[0], [1], [1], [0], [4], [1, 1], [5], [0], [9], [1, 1]])

    def test_no_class_has_windows_then(self):
        windows = [window(group, 5, 6) for group in range(8)]
        items = [add(group, 0, group) for group in range(8)]
        self.assertEqual(last(*windows, *items, order()), [0])
        self.assertEqual(last(*windows, config(3, 24), *items, order()), [8, 0, 1, 2, 3, 4, 5, 6, 7])

    def test_time_and_freezes_stay(self):
        calls = (tick(7), freeze(2), config(3, 24), tick(0), add(1, 0, 2), add(2, 0, 3), order())
        self.assertEqual(ask(*calls), [[7], [0], [0], [7], [1], [2], [1, 2]])

    def test_refused_where_items_wait(self):
        self.assertEqual(last(add(1), config(3, 24)), [-8])

    def test_refused_where_items_wait_that_are_not_ready(self):
        self.assertEqual(last(freeze(-1), add(1), config(3, 24)), [-8])

    def test_refused_where_items_run(self):
        self.assertEqual(last(add(1), serve(1), config(3, 24)), [-8])

    def test_taken_where_all_items_ended(self):
        calls = (add(1), add(2), serve(1), withdraw(2), config(5, 7), outcome(1, 1), config(5, 7), status())
        self.assertEqual(ask(*calls)[3:], [[0], [-8], [2], [0], [5, 7, 1, 0, 0, 1, 1]])

    def test_refused_where_an_item_was_put_back(self):
        self.assertEqual(last(add(1), serve(1), again(1), config(3, 24)), [-8])

    def test_out_of_range_is_told_before_items(self):
        self.assertEqual(last(add(1), config(21, 24)), [-1])
        self.assertEqual(last(add(1), config(3, 0)), [-1])

    def test_refused_config_changes_nothing(self):
        for refused in (config(0, 25), config(21, 4), config(-1, 0)):
            with self.subTest(refused=refused):
                self.assertEqual(passes_needed(refused), 3)
                calls = (window(0, 23, 24), refused, add(1), order(), tick(23), order(), window(0, 0, 24))
                self.assertEqual(ask(*calls)[3:], [[0], [23], [1, 1], [1]])

    def test_config_refused_for_items_changes_nothing(self):
        calls = (window(0, 23, 24), add(1), config(0, 4), order(), tick(23), order(), window(0, 0, 24))
        self.assertEqual(ask(*calls)[2:], [[-8], [0], [23], [1, 1], [1]])
        calls = [add(1, 0), add(2, 9), config(0, 4), order()]
        self.assertEqual(last(*calls), [2, 2, 1])


if __name__ == "__main__":
    unittest.main()
