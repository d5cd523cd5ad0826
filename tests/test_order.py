"""Promise 6, which items are ready, and the order."""

import unittest

from asking import ALL, add, ask, config, freeze, last, order, outcome, serve, tick, window, withdraw
from agingqueue.ready import in_order
from agingqueue.state import Item


def numbers_in_order(limit, *told):
    """The numbers in order of items that came like this: number, priority, how often passed."""
    items = []
    for number, prio, passed in told:
        item = Item(number, prio, 0, [])
        item.passed = passed
        items.append(item)
    return [item.number for item in in_order(items, limit)]


class ReadyTest(unittest.TestCase):
    def test_no_items(self):
        self.assertEqual(ask(order()), [[0]])

    def test_none_ready(self):
        self.assertEqual(last(add(1), freeze(ALL), order()), [0])

    def test_items_that_run_are_not_ready(self):
        self.assertEqual(last(add(1), add(2), add(3), serve(2), order()), [1, 3])

    def test_needs_that_wait_or_run(self):
        self.assertEqual(last(add(1), add(2, 9, 0, [1]), order()), [1, 1])
        self.assertEqual(last(add(1), add(2, 9, 0, [1]), serve(1), order()), [0])

    def test_all_needs_must_have_landed(self):
        calls = (add(1), add(2), add(3, 9, 0, [1, 2]), order(), serve(2), outcome(1, 1), order(), outcome(2, 1),
                 order())
        self.assertEqual(ask(*calls)[3:], [[2, 1, 2], [2, 1, 2], [1], [0], [2], [1, 3]])

    def test_a_need_that_landed_before_the_item_came(self):
        self.assertEqual(last(add(1), serve(1), outcome(1, 1), add(2, 0, 0, [1]), order()), [1, 2])

    def test_needs_that_ended_otherwise(self):
        self.assertEqual(last(add(1), add(2, 0, 0, [1]), serve(1), outcome(1, 0), order()), [0])
        self.assertEqual(last(add(1), add(2, 0, 0, [1]), withdraw(1), order()), [0])
        self.assertEqual(last(add(1), withdraw(1), add(2, 0, 0, [1]), order()), [0])

    def test_one_need_landed_and_another_did_not(self):
        start = (add(1), add(2), add(3, 0, 0, [1, 2]), serve(2), outcome(1, 1))
        self.assertEqual(last(*start, outcome(2, 0), order()), [0])
        self.assertEqual(last(*start, outcome(2, 1), order()), [1, 3])

    def test_landed_needs_do_not_lift_a_freeze_or_a_window(self):
        for call in (freeze(2), freeze(ALL), window(2, 5, 6)):
            with self.subTest(call=call):
                self.assertEqual(last(add(1), add(2, 0, 2, [1]), serve(1), outcome(1, 1), call, order()), [0])

    def test_forty_ready(self):
        forty = [add(number) for number in range(40)]
        self.assertEqual(last(*forty, order()), [40] + list(range(40)))

    def test_asking_changes_nothing(self):
        calls = (add(1), add(2, 5), order(), order(), order(), order(), order(), tick(0))
        self.assertEqual(ask(*calls)[2:], [[2, 2, 1]] * 5 + [[0]])


class OrderTest(unittest.TestCase):
    def test_greater_priority_first(self):
        items = [add(prio, prio) for prio in (3, 0, 9, 1, 8, 2, 7, 4, 6, 5)]
        self.assertEqual(last(*items, order()), [10, 9, 8, 7, 6, 5, 4, 3, 2, 1, 0])

    def test_same_priority_as_they_came(self):
        self.assertEqual(last(add(5, 4), add(1, 4), add(9, 4), add(3, 4), order()), [4, 5, 1, 9, 3])

    def test_mixed_priorities(self):
        calls = (add(5, 4), add(1, 6), add(9, 4), add(3, 6), add(2, 0), order())
        self.assertEqual(last(*calls), [5, 1, 3, 5, 9, 2])

    def test_passed_as_often_as_the_limit_goes_first(self):
        calls = [add(1, 0)]
        for number in (11, 12, 13):
            calls += [add(number, 5), serve(1)]
        calls += [add(14, 9), order()]
        self.assertEqual(last(*calls), [2, 1, 14])

    def test_passed_less_often_than_the_limit_does_not(self):
        calls = [add(1, 0)]
        for number in (11, 12):
            calls += [add(number, 5), serve(1)]
        calls += [add(14, 9), order()]
        self.assertEqual(last(*calls), [2, 14, 1])

    def test_those_passed_often_go_as_they_came_whatever_their_priority(self):
        calls = [config(1, 24), add(1, 0), add(2, 3), add(3, 1), add(4, 9), serve(1), add(5, 9), order()]
        self.assertEqual(last(*calls), [4, 1, 2, 3, 5])

    def test_those_passed_less_often_go_by_priority_alone(self):
        self.assertEqual(numbers_in_order(3, (1, 5, 2), (2, 5, 0), (3, 6, 0), (4, 5, 1)), [3, 1, 2, 4])

    def test_more_often_than_the_limit_is_like_as_often(self):
        self.assertEqual(numbers_in_order(3, (1, 5, 3), (2, 0, 9), (3, 9, 4), (4, 9, 2)), [1, 2, 3, 4])

    def test_limit_zero_is_as_they_came(self):
        self.assertEqual(last(config(0, 24), add(1, 0), add(2, 9), add(3, 5), order()), [3, 1, 2, 3])

    def test_passed_item_that_is_not_ready_is_left_out(self):
        calls = [config(1, 24), add(1, 0, 2), add(2, 1), add(3, 9), serve(1), freeze(2), order()]
        self.assertEqual(last(*calls), [1, 2])


if __name__ == "__main__":
    unittest.main()
