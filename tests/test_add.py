"""Promise 2."""

import unittest

from asking import FAR, add, ask, freeze, last, order, outcome, queue_with_ended, serve, snapshot, tell, withdraw


class AddTest(unittest.TestCase):
    def test_answers_how_many_wait(self):
        self.assertEqual(ask(add(5), add(6, 3, 2), add(7, 1, 1, [5, 6])), [[1], [2], [3]])

    def test_items_that_run_do_not_count_as_waiting(self):
        self.assertEqual(last(add(5), add(6), serve(2), add(7)), [1])

    def test_edges_of_the_number(self):
        for number, answer in ((-1, -1), (0, 1), (999, 1), (1000, -1), (-FAR, -1), (FAR, -1)):
            with self.subTest(number=number):
                self.assertEqual(ask(add(number)), [[answer]])

    def test_edges_of_the_priority(self):
        for prio, answer in ((-1, -1), (0, 1), (9, 1), (10, -1), (-FAR, -1), (FAR, -1)):
            with self.subTest(prio=prio):
                self.assertEqual(ask(add(1, prio)), [[answer]])

    def test_edges_of_the_class(self):
        for group, answer in ((-1, -1), (0, 1), (7, 1), (8, -1), (-FAR, -1), (FAR, -1)):
            with self.subTest(group=group):
                self.assertEqual(ask(add(1, 0, group)), [[answer]])

    def test_came_last_and_was_never_passed(self):
        calls = (add(9), add(3), add(5), order())
        self.assertEqual(last(*calls), [3, 9, 3, 5])
        self.assertEqual(last(add(1, 0), add(2, 0), add(3, 1), order()), [3, 3, 1, 2])

    def test_six_needs_and_seven(self):
        there = [add(number) for number in range(7)]
        self.assertEqual(last(*there, add(50, 0, 0, range(6))), [8])
        self.assertEqual(last(*there, add(50, 0, 0, range(7))), [-2])

    def test_twenty_needs(self):
        there = [add(number) for number in range(20)]
        self.assertEqual(last(*there, add(50, 0, 0, range(20))), [-2])
        self.assertEqual(last(add(50, 0, 0, [FAR] * 20)), [-2])

    def test_needs_out_of_range(self):
        for need in (-1, 1000, -FAR, FAR):
            with self.subTest(need=need):
                self.assertEqual(last(add(1), add(50, 0, 0, [need])), [-2])
                self.assertEqual(last(add(1), add(50, 0, 0, [1, need])), [-2])
                self.assertEqual(last(add(1), add(50, 0, 0, [need, 1])), [-2])

    def test_needs_at_the_edges_of_their_range(self):
        self.assertEqual(last(add(0), add(999), add(50, 0, 0, [0, 999])), [3])

    def test_a_need_twice(self):
        self.assertEqual(last(add(1), add(2), add(50, 0, 0, [1, 1])), [-2])
        self.assertEqual(last(add(1), add(2), add(50, 0, 0, [1, 2, 1])), [-2])

    def test_number_that_waits_or_runs(self):
        self.assertEqual(last(add(1), add(1)), [-9])
        self.assertEqual(last(add(1), serve(1), add(1)), [-9])

    def test_number_that_ended(self):
        self.assertEqual(last(add(1), serve(1), outcome(1, 1), add(1)), [-9])
        self.assertEqual(last(add(1), serve(1), outcome(1, 0), add(1)), [-9])
        self.assertEqual(last(add(1), withdraw(1), add(1)), [-9])

    def test_need_that_never_was(self):
        self.assertEqual(last(add(50, 0, 0, [1])), [-6])
        self.assertEqual(last(add(1), add(50, 0, 0, [1, 2])), [-6])

    def test_item_that_needs_itself(self):
        self.assertEqual(last(add(50, 0, 0, [50])), [-6])

    def test_need_that_runs_or_ended(self):
        self.assertEqual(last(add(1), serve(1), add(50, 0, 0, [1])), [1])
        self.assertEqual(last(add(1), serve(1), outcome(1, 1), add(50, 0, 0, [1])), [1])
        self.assertEqual(last(add(1), serve(1), outcome(1, 0), add(50, 0, 0, [1])), [1])
        self.assertEqual(last(add(1), withdraw(1), add(50, 0, 0, [1])), [1])

    def test_item_that_was_refused_never_was(self):
        self.assertEqual(last(add(1, 10), add(2, 0, 0, [1])), [-6])
        self.assertEqual(last(add(1, 10), add(1)), [1])

    def test_forty_wait(self):
        forty = [add(number) for number in range(40)]
        self.assertEqual(ask(*forty)[-1], [40])
        self.assertEqual(last(*forty, add(40)), [-7])

    def test_forty_wait_or_run(self):
        forty = [add(number) for number in range(40)]
        self.assertEqual(last(*forty, serve(15), add(40)), [-7])
        self.assertEqual(last(*forty, serve(40), add(40)), [-7])
        self.assertEqual(last(*forty[:39], serve(15), add(40)), [25])
        self.assertEqual(last(*forty[:39], serve(39), add(40)), [1])

    def test_ended_items_leave_room(self):
        forty = [add(number) for number in range(40)]
        self.assertEqual(ask(*forty, serve(1), add(40), outcome(0, 1), add(40), add(41))[41:], [[-7], [1], [40], [-7]])
        self.assertEqual(ask(*forty, serve(1), add(40), outcome(0, 0), add(40), add(41))[41:], [[-7], [1], [40], [-7]])
        self.assertEqual(ask(*forty, add(40), withdraw(7), add(40), add(41))[40:], [[-7], [39], [40], [-7]])

    def test_four_hundred_in_all(self):
        queue = queue_with_ended(399)
        self.assertEqual(tell(queue, add(399)), [1])
        self.assertEqual(tell(queue, add(400)), [-7])
        self.assertEqual(tell(queue_with_ended(400), add(400)), [-7])

    def test_out_of_range_is_told_before_all_others(self):
        self.assertEqual(last(add(1), add(1, 10, 0, [7, 7])), [-1])
        self.assertEqual(last(add(1), add(1, 0, 8, [7, 7])), [-1])
        self.assertEqual(last(add(1), add(-1, 0, 0, [7, 7])), [-1])

    def test_wrong_needs_are_told_before_a_known_number(self):
        self.assertEqual(last(add(1), add(1, 0, 0, [7, 7])), [-2])

    def test_a_known_number_is_told_before_an_unknown_need(self):
        self.assertEqual(last(add(1), add(1, 0, 0, [7])), [-9])

    def test_a_full_queue_is_told_last(self):
        forty = [add(number) for number in range(40)]
        self.assertEqual(last(*forty, add(40, 10)), [-1])
        self.assertEqual(last(*forty, add(40, 0, 0, [1, 1])), [-2])
        self.assertEqual(last(*forty, add(39)), [-9])
        self.assertEqual(last(*forty, add(40, 0, 0, [41])), [-6])

    def test_four_hundred_are_told_last(self):
        queue = queue_with_ended(400)
        self.assertEqual(tell(queue, add(400, 10)), [-1])
        self.assertEqual(tell(queue, add(400, 0, 0, [1, 1])), [-2])
        self.assertEqual(tell(queue, add(399)), [-9])
        self.assertEqual(tell(queue, add(400, 0, 0, [401])), [-6])

    def test_refusals_change_nothing(self):
        before = [add(1, 5), add(2, 7)]
        for refused in (add(3, 10), add(3, 9, 0, [1, 1]), add(1, 9), add(3, 9, 0, [4])):
            with self.subTest(refused=refused):
                self.assertEqual(ask(*before, refused, order(), add(3, 6), order())[3:], [[2, 2, 1], [3], [3, 2, 3, 1]])

    def test_refusal_of_a_full_queue_changes_nothing(self):
        queue = queue_with_ended(400)
        before = snapshot(queue)
        self.assertEqual(tell(queue, add(400)), [-7])
        self.assertEqual(snapshot(queue), before)

    def test_item_keeps_class_and_priority(self):
        calls = (add(1, 2, 3), add(2, 4, 5), freeze(3), order())
        self.assertEqual(last(*calls), [1, 2])


if __name__ == "__main__":
    unittest.main()
