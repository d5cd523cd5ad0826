"""Promise 8: withdraw."""

import unittest

from asking import (ALL, FAR, add, again, ask, freeze, last, order, outcome, queue_after, serve, snapshot, status, tell,
                    why, window, withdraw)

WAITING = (add(4), add(5), add(6))


class WithdrawTest(unittest.TestCase):
    def test_the_first(self):
        self.assertEqual(ask(*WAITING, withdraw(4), why(4), order())[3:], [[2], [9], [2, 5, 6]])

    def test_a_middle_one(self):
        self.assertEqual(ask(*WAITING, withdraw(5), why(5), order())[3:], [[2], [9], [2, 4, 6]])

    def test_the_last(self):
        self.assertEqual(ask(*WAITING, withdraw(6), why(6), order())[3:], [[2], [9], [2, 4, 5]])

    def test_all(self):
        calls = (*WAITING, withdraw(5), withdraw(4), withdraw(6), order(), serve(3), status())
        self.assertEqual(ask(*calls)[3:], [[2], [1], [0], [0], [0], [3, 24, 1, 0, 0, 0, 3]])

    def test_items_that_run_do_not_count_as_waiting(self):
        self.assertEqual(ask(*WAITING, serve(1), withdraw(6), status())[4:], [[1], [3, 24, 1, 1, 1, 0, 1]])

    def test_thirty_nine_wait_then(self):
        forty = [add(number) for number in range(40)]
        self.assertEqual(ask(*forty, withdraw(39), add(40), withdraw(0), add(41))[40:], [[39], [40], [39], [40]])

    def test_numbers_at_the_edges(self):
        self.assertEqual(ask(add(0), add(999), withdraw(0), withdraw(999))[2:], [[1], [0]])

    def test_items_that_are_not_ready(self):
        self.assertEqual(last(*WAITING, freeze(0), withdraw(5)), [2])
        self.assertEqual(last(*WAITING, freeze(ALL), withdraw(5)), [2])
        self.assertEqual(last(*WAITING, window(0, 5, 6), withdraw(5)), [2])
        self.assertEqual(last(*WAITING, add(7, 0, 0, [4]), withdraw(7)), [3])

    def test_an_item_that_was_put_back(self):
        self.assertEqual(ask(*WAITING, serve(2), again(5), withdraw(5), order())[4:], [[2], [1], [1, 6]])

    def test_needs_that_were_withdrawn(self):
        calls = (*WAITING, add(7, 9, 0, [5]), withdraw(5), order(), why(7), serve(3))
        self.assertEqual(ask(*calls)[4:], [[3], [2, 4, 6], [5, 1, 5], [2, 4, 6]])

    def test_the_order_and_who_is_passed_behind_it(self):
        calls = (add(1, 0), add(2, 9), add(3, 8), withdraw(2), order(), serve(1), why(1))
        self.assertEqual(ask(*calls)[3:], [[2], [2, 3, 1], [1, 3], [1, 1]])
        calls = (add(1, 9), add(2, 0), add(3, 5), withdraw(3), serve(1), why(2))
        self.assertEqual(last(*calls), [1, 0])

    def test_passes_nobody_and_takes_no_time(self):
        self.assertEqual(ask(add(1, 0), add(2, 9), withdraw(2), why(1), status())[3:],
                         [[1, 0], [3, 24, 0, 1, 0, 0, 1]])

    def test_a_number_that_no_item_has(self):
        for number in (-1, 0, 3, 7, 999, 1000, -FAR, FAR):
            with self.subTest(number=number):
                self.assertEqual(last(*WAITING, withdraw(number)), [-6])

    def test_an_item_that_runs(self):
        self.assertEqual(ask(*WAITING, serve(1), withdraw(4), why(4))[4:], [[-6], [6]])

    def test_an_item_that_ended(self):
        calls = (add(1), add(2), add(3), withdraw(3), serve(2), outcome(1, 1), outcome(2, 0))
        for number, told in ((1, 7), (2, 8), (3, 9)):
            with self.subTest(number=number):
                asked = ask(*calls, withdraw(number), why(number), status())
                self.assertEqual(asked[7:], [[-6], [told], [3, 24, 1, 0, 0, 1, 2]])

    def test_refusals_change_nothing(self):
        queue = queue_after(*WAITING, add(7), serve(2), outcome(4, 1), withdraw(7))
        before = snapshot(queue)
        for number in (4, 5, 7, 8, -1, -FAR, FAR):
            with self.subTest(number=number):
                self.assertEqual(tell(queue, withdraw(number)), [-6])
                self.assertEqual(snapshot(queue), before)


if __name__ == "__main__":
    unittest.main()
