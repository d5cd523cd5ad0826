"""Promise 3, and when a class is open."""

import unittest

from asking import FAR, add, ask, config, last, order, serve, tick, window


def ready_hours(day, *hours):
    """The hours of two days at which an item of a class with these windows is ready."""
    calls = [config(3, day), window(4, *hours), add(1, 0, 4)]
    calls += [call for hour in range(2 * day) for call in (order(), tick(1))]
    asked = ask(*calls)[3::2]
    return [hour for hour in range(2 * day) if asked[hour] == [1, 1]]


class WindowTest(unittest.TestCase):
    def test_answers_how_many(self):
        self.assertEqual(ask(window(0, 1, 2), window(0, 1, 2, 3, 4), window(0)), [[1], [2], [0]])

    def test_edges_of_the_class(self):
        for group, answer in ((-1, -1), (0, 1), (7, 1), (8, -1), (-FAR, -1), (FAR, -1)):
            with self.subTest(group=group):
                self.assertEqual(ask(window(group, 1, 2)), [[answer]])

    def test_first_hour_and_hour_behind_the_last(self):
        self.assertEqual(ready_hours(6, 2, 4), [2, 3, 8, 9])

    def test_whole_day(self):
        self.assertEqual(ready_hours(3, 0, 3), [0, 1, 2, 3, 4, 5])
        self.assertEqual(ready_hours(24, 0, 24), list(range(48)))

    def test_edges_of_a_day_of_24_hours(self):
        self.assertEqual(ready_hours(24, 0, 1), [0, 24])
        self.assertEqual(ready_hours(24, 23, 24), [23, 47])

    def test_several_windows(self):
        self.assertEqual(ready_hours(10, 7, 9, 0, 1), [0, 7, 8, 10, 17, 18])

    def test_windows_may_overlap_and_be_the_same(self):
        self.assertEqual(ready_hours(10, 2, 5, 4, 6, 2, 5), [2, 3, 4, 5, 12, 13, 14, 15])

    def test_no_windows(self):
        self.assertEqual(ready_hours(4), [0, 1, 2, 3, 4, 5, 6, 7])

    def test_four_windows_and_five(self):
        self.assertEqual(ask(window(0, 0, 1, 2, 3, 4, 5, 6, 7)), [[4]])
        self.assertEqual(ask(window(0, 0, 1, 2, 3, 4, 5, 6, 7, 8, 9)), [[-2]])
        self.assertEqual(ready_hours(8, 0, 1, 2, 3, 4, 5, 6, 7), [0, 2, 4, 6, 8, 10, 12, 14])

    def test_twenty_numbers(self):
        self.assertEqual(ask(window(0, *range(20))), [[-2]])
        self.assertEqual(ask(window(0, *[FAR] * 20)), [[-2]])

    def test_odd_numbers(self):
        for amount in (1, 3, 5, 7, 9, 19):
            with self.subTest(amount=amount):
                self.assertEqual(ask(window(0, *range(amount))), [[-2]])

    def test_edges_of_the_hours(self):
        for hours, answer in (((-1, 1), -2), ((0, 1), 1), ((23, 24), 1), ((23, 25), -2), ((24, 25), -2),
                              ((24, 24), -2), ((-FAR, 1), -2), ((0, FAR), -2), ((-FAR, FAR), -2)):
            with self.subTest(hours=hours):
                self.assertEqual(ask(window(0, *hours)), [[answer]])

    def test_hours_follow_the_day_that_was_told(self):
        self.assertEqual(ask(config(3, 5), window(0, 4, 5), window(0, 4, 6)), [[0], [1], [-2]])
        self.assertEqual(ask(config(3, 1), window(0, 0, 1), window(0, 1, 1)), [[0], [1], [-2]])

    def test_first_must_be_less_than_second(self):
        self.assertEqual(ask(window(0, 4, 4), window(0, 5, 4), window(0, 0, 0)), [[-2], [-2], [-2]])

    def test_any_wrong_pair_refuses(self):
        self.assertEqual(ask(window(0, 1, 2, 4, 4), window(0, 4, 4, 1, 2)), [[-2], [-2]])

    def test_in_place_of_those_before(self):
        calls = (window(0, 0, 1), window(0, 1, 2), add(1), order(), tick(1), order())
        self.assertEqual(ask(*calls)[3:], [[0], [1], [1, 1]])
        self.assertEqual(last(window(0, 5, 6), window(0), add(1), order()), [1, 1])

    def test_only_of_that_class(self):
        items = [add(group, 0, group) for group in range(8)]
        self.assertEqual(last(window(3, 5, 6), *items, order()), [7, 0, 1, 2, 4, 5, 6, 7])

    def test_items_there_are_bound_by_new_windows(self):
        self.assertEqual(ask(add(1), window(0, 5, 6), order(), serve(1)), [[1], [1], [0], [0]])

    def test_class_is_told_before_hours(self):
        self.assertEqual(ask(window(8, 1), window(-1, 5, 4)), [[-1], [-1]])

    def test_refusals_change_nothing(self):
        for refused in (window(0, 0), window(0, 1, 1), window(0, 0, 25), window(0, 0, 1, 2), window(8, 0, 1),
                        window(-8, 0, 1), window(0, 0, 1, 1, 2, 2, 3, 3, 4, 4, 5)):
            with self.subTest(refused=refused):
                calls = (window(0, 1, 2), refused, add(1), order(), tick(1), order())
                self.assertEqual(ask(*calls)[3:], [[0], [1], [1, 1]])


if __name__ == "__main__":
    unittest.main()
