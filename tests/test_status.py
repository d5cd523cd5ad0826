"""Promise 12."""

import unittest

from asking import (FAR, add, again, ask, config, freeze, last, next_open, order, outcome, place, queue_after, serve,
                    snapshot, status, tell, thaw, tick, why, window, withdraw)


class StatusTest(unittest.TestCase):
    def test_at_the_beginning(self):
        self.assertEqual(ask(status()), [[3, 24, 0, 0, 0, 0, 0]])

    def test_limit_and_day(self):
        self.assertEqual(last(config(20, 1), status()), [20, 1, 0, 0, 0, 0, 0])
        self.assertEqual(last(config(0, 13), status()), [0, 13, 0, 0, 0, 0, 0])
        self.assertEqual(last(config(5, 6), config(21, 7), config(7, 25), status()), [5, 6, 0, 0, 0, 0, 0])

    def test_time(self):
        self.assertEqual(last(tick(1000), tick(30), serve(1), status()), [3, 24, 1031, 0, 0, 0, 0])

    def test_each_count_is_its_own(self):
        adds = [add(number) for number in range(15)]
        ends = [outcome(0, 1), outcome(1, 1), outcome(2, 1), outcome(3, 0), withdraw(14)]
        self.assertEqual(last(*adds, serve(10), *ends, status()), [3, 24, 1, 4, 6, 3, 2])

    def test_rejected_and_withdrawn_are_lost(self):
        self.assertEqual(last(add(1), serve(1), outcome(1, 0), status()), [3, 24, 1, 0, 0, 0, 1])
        self.assertEqual(last(add(1), withdraw(1), status()), [3, 24, 0, 0, 0, 0, 1])
        self.assertEqual(last(add(1), serve(1), outcome(1, 1), status()), [3, 24, 1, 0, 0, 1, 0])

    def test_items_that_are_not_ready_wait(self):
        calls = (freeze(1), window(2, 5, 6), add(1, 0, 1), add(2, 0, 2), add(3, 0, 0, [1]), add(4), status())
        self.assertEqual(last(*calls), [3, 24, 0, 4, 0, 0, 0])

    def test_an_item_whose_need_was_lost_waits(self):
        self.assertEqual(last(add(1), add(2, 0, 0, [1]), withdraw(1), status()), [3, 24, 0, 1, 0, 0, 1])

    def test_put_back(self):
        self.assertEqual(last(add(1), add(2), serve(2), again(1), status()), [3, 24, 1, 1, 1, 0, 0])

    def test_forty(self):
        forty = [add(number) for number in range(40)]
        self.assertEqual(last(*forty, status()), [3, 24, 0, 40, 0, 0, 0])
        self.assertEqual(last(*forty, serve(40), status()), [3, 24, 1, 0, 40, 0, 0])

    def test_in_the_midst_of_a_long_list(self):
        calls, told = [config(2, 7)], []
        for turn in range(30):
            calls += [add(10 * turn), add(10 * turn + 1), add(10 * turn + 2), serve(2), outcome(10 * turn, 1),
                      outcome(10 * turn + 1, turn % 2), withdraw(10 * turn + 2), tick(3), status()]
            turns, odd = turn + 1, (turn + 1) // 2
            told.append([2, 7, 4 * turns, 0, 0, turns + odd, 2 * turns - odd])
        self.assertEqual(ask(*calls)[9::9], told)

    def test_asking_changes_nothing(self):
        queue = queue_after(add(1), add(2), add(3), serve(2), outcome(1, 1))
        before = snapshot(queue)
        self.assertEqual(tell(queue, status()), tell(queue, status()))
        self.assertEqual(snapshot(queue), before)

    def test_refusals_are_not_seen(self):
        start = (add(1), add(2), add(3), serve(2), outcome(1, 1))
        refused = (config(3, 24), add(1), add(FAR), window(8), freeze(8), thaw(8), tick(-1), serve(0), outcome(1, 1),
                   outcome(2, 2), again(1), again(3), withdraw(1), withdraw(2), why(9), place(2), next_open(8))
        for call in refused:
            with self.subTest(call=call):
                self.assertLess(last(*start, call)[0], 0)
                self.assertEqual(last(*start, call, status(), order(), status()), [3, 24, 1, 1, 1, 1, 0])


if __name__ == "__main__":
    unittest.main()
