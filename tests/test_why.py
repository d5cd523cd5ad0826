"""Promise 9."""

import unittest

from asking import (ALL, FAR, add, again, ask, config, freeze, last, outcome, queue_after, serve, snapshot, tell, thaw,
                    tick, why, window, withdraw)

# 1 and 2 landed, 3 was rejected, 4 was withdrawn, 5 runs, 6 waits.
ENDED = (add(1), add(2), add(3), add(4), withdraw(4), serve(3), outcome(1, 1), outcome(2, 1), outcome(3, 0), add(5),
         serve(1), add(6))


class WhyTest(unittest.TestCase):
    def test_ready_and_never_passed(self):
        self.assertEqual(last(add(1), why(1)), [1, 0])

    def test_ready_and_how_often_passed(self):
        calls = [config(20, 24), add(1, 0)]
        for number in range(100, 120):
            calls += [add(number, 9), serve(1), why(1)]
        self.assertEqual(ask(*calls)[4::3], [[1, count] for count in range(1, 21)])

    def test_class_is_frozen(self):
        self.assertEqual(ask(add(1, 0, 3), freeze(3), why(1), thaw(3), why(1))[2::2], [[2], [1, 0]])
        self.assertEqual(last(add(1, 0, 3), freeze(2), freeze(4), why(1)), [1, 0])

    def test_everything_is_frozen(self):
        self.assertEqual(ask(add(1, 0, 3), freeze(ALL), why(1), thaw(ALL), why(1))[2::2], [[2], [1, 0]])

    def test_class_and_everything_are_frozen(self):
        calls = (add(1, 0, 3), freeze(3), freeze(ALL), why(1), thaw(ALL), why(1), thaw(3), why(1))
        self.assertEqual(ask(*calls)[3::2], [[2], [2], [1, 0]])

    def test_class_is_outside_its_windows(self):
        calls = [window(3, 2, 4), add(1, 0, 3)] + [call for hour in range(24) for call in (why(1), tick(1))]
        told = [[3], [3], [1, 0], [1, 0]] + [[3]] * 20
        self.assertEqual(ask(*calls)[2::2], told)

    def test_another_class_is_outside_its_windows(self):
        self.assertEqual(last(window(2, 2, 4), window(4, 2, 4), add(1, 0, 3), why(1)), [1, 0])

    def test_runs(self):
        self.assertEqual(last(add(1), serve(1), why(1)), [6])

    def test_ended(self):
        self.assertEqual(ask(*ENDED, why(1), why(2), why(3), why(4))[12:], [[7], [7], [8], [9]])

    def test_a_need_that_waits_or_runs(self):
        self.assertEqual(last(*ENDED, add(7, 0, 0, [6]), why(7)), [4, 1, 6])
        self.assertEqual(last(*ENDED, add(7, 0, 0, [5]), why(7)), [4, 1, 5])

    def test_a_need_that_ended(self):
        self.assertEqual(last(*ENDED, add(7, 0, 0, [1]), why(7)), [1, 0])
        self.assertEqual(last(*ENDED, add(7, 0, 0, [3]), why(7)), [5, 1, 3])
        self.assertEqual(last(*ENDED, add(7, 0, 0, [4]), why(7)), [5, 1, 4])

    def test_needs_in_the_order_of_the_needs(self):
        self.assertEqual(last(*ENDED, add(7, 0, 0, [6, 5]), why(7)), [4, 2, 6, 5])
        self.assertEqual(last(*ENDED, add(7, 0, 0, [5, 6]), why(7)), [4, 2, 5, 6])
        self.assertEqual(last(*ENDED, add(7, 0, 0, [4, 3]), why(7)), [5, 2, 4, 3])
        self.assertEqual(last(*ENDED, add(7, 0, 0, [3, 4]), why(7)), [5, 2, 3, 4])

    def test_needs_that_landed_are_left_out(self):
        self.assertEqual(last(*ENDED, add(7, 0, 0, [2, 6, 1, 5]), why(7)), [4, 2, 6, 5])
        self.assertEqual(last(*ENDED, add(7, 0, 0, [1, 4, 2, 3]), why(7)), [5, 2, 4, 3])

    def test_lost_needs_alone_where_some_are_neither(self):
        self.assertEqual(last(*ENDED, add(7, 0, 0, [6, 4, 5]), why(7)), [5, 1, 4])
        self.assertEqual(last(*ENDED, add(7, 0, 0, [6, 4, 1, 3, 5, 2]), why(7)), [5, 2, 4, 3])
        self.assertEqual(last(*ENDED, add(7, 0, 0, [3, 2, 6, 1, 5, 4]), why(7)), [5, 2, 3, 4])

    def test_six_needs(self):
        six = [add(number) for number in (15, 11, 14, 10, 13, 12)]
        item = add(50, 0, 0, [13, 10, 15, 12, 11, 14])
        self.assertEqual(last(*six, item, why(50)), [4, 6, 13, 10, 15, 12, 11, 14])
        gone = [withdraw(number) for number in range(10, 16)]
        self.assertEqual(last(*six, item, *gone, why(50)), [5, 6, 13, 10, 15, 12, 11, 14])

    def test_needs_one_after_another(self):
        calls = (add(1), add(2), add(3, 0, 0, [2, 1]), why(3), serve(2), why(3), outcome(2, 1), why(3), outcome(1, 1),
                 why(3))
        self.assertEqual(ask(*calls)[3::2], [[4, 2, 2, 1], [4, 2, 2, 1], [4, 1, 1], [1, 0]])

    def test_a_need_that_itself_lost_a_need(self):
        calls = (add(1), add(2, 0, 0, [1]), add(3, 0, 0, [2]), withdraw(1), why(2), why(3))
        self.assertEqual(ask(*calls)[4:], [[5, 1, 1], [4, 1, 2]])

    def test_the_first_reason_is_told(self):
        shut = (freeze(3), freeze(ALL), window(3, 20, 21))
        self.assertEqual(last(*ENDED, *shut, add(7, 0, 3, [5, 3]), why(7)), [5, 1, 3])
        self.assertEqual(last(*ENDED, *shut, add(7, 0, 3, [5, 1]), why(7)), [4, 1, 5])
        self.assertEqual(last(*ENDED, *shut, add(7, 0, 3, [2, 1]), why(7)), [2])
        self.assertEqual(last(*ENDED, *shut[:1], shut[2], add(7, 0, 3, [2, 1]), why(7)), [2])
        self.assertEqual(last(*ENDED, *shut[1:], add(7, 0, 3, [2, 1]), why(7)), [2])
        self.assertEqual(last(*ENDED, *shut[2:], add(7, 0, 3, [2, 1]), why(7)), [3])

    def test_of_an_item_that_waits_alone(self):
        shut = (freeze(0), freeze(ALL), window(0, 20, 21))
        calls = (*ENDED, *shut, why(1), why(3), why(4), why(5), why(6))
        self.assertEqual(ask(*calls)[15:], [[7], [8], [9], [6], [2]])

    def test_an_ended_item_whose_needs_were_lost(self):
        calls = (*ENDED, add(7, 0, 0, [3]), withdraw(7), why(7))
        self.assertEqual(last(*calls), [9])

    def test_through_an_items_life(self):
        calls = (add(1), why(1), serve(1), why(1), again(1), why(1), serve(1), why(1), outcome(1, 1), why(1))
        self.assertEqual(ask(*calls)[1::2], [[1, 0], [6], [1, 0], [6], [7]])

    def test_numbers_at_the_edges(self):
        self.assertEqual(ask(add(0), add(999), why(0), why(999), why(1000), why(-1))[2:], [[1, 0], [1, 0], [-6], [-6]])

    def test_a_number_that_no_item_ever_had(self):
        for number in (-1, 0, 8, 999, 1000, -FAR, FAR):
            with self.subTest(number=number):
                self.assertEqual(ask(why(number)), [[-6]])
                self.assertEqual(last(*ENDED, why(number)), [-6])

    def test_an_item_that_was_refused_never_was(self):
        self.assertEqual(last(add(1, 10), why(1)), [-6])
        self.assertEqual(last(add(1, 0, 0, [2]), why(1)), [-6])

    def test_asking_changes_nothing(self):
        queue = queue_after(*ENDED, add(7, 0, 0, [6, 3]), add(8, 0, 0, [5]))
        before = snapshot(queue)
        for number in (1, 3, 4, 5, 6, 7, 8, 9, -FAR, FAR):
            with self.subTest(number=number):
                tell(queue, why(number)).append(0)
                self.assertEqual(snapshot(queue), before)


if __name__ == "__main__":
    unittest.main()
